import Derived.Test.YtbmfnpgopafbkaaSc
namespace Go.Proofs.Ytbmfnpgopafbkaa
open Go.RowKit Kt

/-- A second's nanoseconds, so often doubled, by so many cycles, to the nearest one. -/
def facZ (h : Int) (k : Nat) : Int := (1000000000 * 2 ^ k + h / 2) / h
theorem facZ_mono (h : Int) (h0 : 1 ≤ h) {a b : Nat} (hab : a ≤ b) : facZ h a ≤ facZ h b := by
  unfold facZ
  apply Int.ediv_le_ediv (by omega)
  have h1 := Nat.pow_le_pow_right (n := 2) (by omega) hab
  have h2 : ((2 ^ a : Nat) : Int) ≤ ((2 ^ b : Nat) : Int) := Int.ofNat_le.2 h1
  rw [Int.natCast_pow, Int.natCast_pow] at h2
  have : ((2 : Nat) : Int) = 2 := rfl
  rw [this] at h2
  omega
theorem facZ_zero (h : Int) (h0 : 1 ≤ h) : facZ h 0 ≤ 1000000000 := by
  unfold facZ
  apply Int.le_of_lt_add_one
  apply Int.ediv_lt_of_lt_mul (by omega)
  simp
  have : h * 1 ≤ h * 1000000000 := Int.mul_le_mul_of_nonneg_left (by omega) (by omega)
  omega
theorem facZ_nn (h : Int) (h0 : 1 ≤ h) (k : Nat) : 0 ≤ facZ h k := by
  unfold facZ
  have : (0 : Int) < 2 ^ k := Int.pow_pos (by omega)
  exact Int.ediv_nonneg (by omega) (by omega)
set_option maxHeartbeats 1000000 in
theorem sfactor_any (h : Int) (k : Nat) (w : World) (h0 : 1 ≤ h) (h1 : h ≤ 1099511627776) (hk : k ≤ 32) :
    Calls Try.prog 38 #[.int .i64 h, .int .i64 (k : Int)] w fun e w' => e = .returned (.int .i64 (facZ h k)) ∧ w' = w := by
  have hz : (h == 0) = false := by simp; omega
  have p0 : (0 : Int) < 2 ^ k := Int.pow_pos (by omega)
  have p1 : (2 : Int) ^ k ≤ 4294967296 := by
    have h1 := Nat.pow_le_pow_right (n := 2) (by omega) hk
    have h2 : ((2 ^ k : Nat) : Int) ≤ ((2 ^ 32 : Nat) : Int) := Int.ofNat_le.2 h1
    rw [Int.natCast_pow] at h2
    exact h2
  go_enter Try.func38, Try.ntmps38
  go_wp2
  go_ret
  exact ⟨rfl, rfl⟩

/-- The greatest shift, from k down, whose factor fits. -/
def topShift (h : Int) : Nat → Nat
  | 0 => 0
  | k + 1 => if 4294967295 < facZ h (k + 1) then topShift h k else k + 1
theorem topShift_le (h : Int) (k : Nat) : topShift h k ≤ k := by
  induction k with
  | zero => simp [topShift]
  | succ n ih => unfold topShift; split <;> omega
theorem topShift_fits (h : Int) (h0 : 1 ≤ h) (k : Nat) : facZ h (topShift h k) ≤ 4294967295 := by
  induction k with
  | zero => have := facZ_zero h h0; simp [topShift]; omega
  | succ n ih => unfold topShift; split <;> omega

theorem topShift_at (h : Int) (k : Nat) (hf : facZ h k ≤ 4294967295) : topShift h k = k := by
  cases k with
  | zero => rfl
  | succ n => unfold topShift; rw [if_neg (by omega)]
theorem topShift_down (h : Int) (k : Nat) (hf : 4294967295 < facZ h (k + 1)) : topShift h (k + 1) = topShift h k := by
  conv => lhs; unfold topShift
  rw [if_pos hf]

set_option maxRecDepth 100000 in
set_option maxHeartbeats 1000000 in
theorem smake_no (h : Int) (w : World) (hr : (decide (1 ≤ h) && decide (h ≤ 1099511627776)) = false) :
    Calls Try.prog 25 #[.int .i64 h] w fun e w' => e = .returned (.tuple #[.agg #[.int .i64 0, .int .i64 0], .bool false]) ∧ Below w.heap.size w w' := by
  go_enter Try.func25, Try.ntmps25
  go_wp2_with (go_at_call 37; refine (srated_any _ _).mono ?_; rintro e w' ⟨rfl, rfl⟩)
  exact bodyPost_ret (v := .tuple #[.agg #[.int .i64 0, .int .i64 0], .bool false]) (by simp [results, Try.results25, go_sem]) rfl ⟨rfl, (Below.refl _ _).alloc (Nat.le_refl _) _⟩
set_option maxRecDepth 100000 in
set_option maxHeartbeats 1000000 in
theorem smake_yes (h : Int) (w : World) (h0 : 1 ≤ h) (h1 : h ≤ 1099511627776) :
    Calls Try.prog 25 #[.int .i64 h] w fun e w' => e = .returned (.tuple #[.agg #[.int .i64 (facZ h (topShift h 32)), .int .i64 (topShift h 32 : Nat)], .bool true]) ∧ Below w.heap.size w w' := by
  have hr : (decide (1 ≤ h) && decide (h ≤ 1099511627776)) = true := by simp; omega
  go_enter Try.func25, Try.ntmps25
  go_wp2_with (go_at_call 37; refine (srated_any _ _).mono ?_; rintro e w' ⟨rfl, rfl⟩)
  go_loop [4] (fun t4 => ∃ k : Nat, k ≤ 32 ∧ t4 = .int .i64 k ∧ Hid (topShift h 32 = topShift h k)) (fun t4 => (intOf t4).toNat)
  case atStart => exact ⟨32, by omega, rfl, hide rfl⟩
  case round =>
    obtain ⟨k, hk, rfl, ht⟩ := hrel
    by_cases hf : facZ h k ≤ 4294967295
    · have e := (unhide ht).trans (topShift_at h k hf)
      go_wp2_with (go_at_call 38; refine (sfactor_any h k _ h0 h1 hk).mono ?_; rintro e w' ⟨rfl, rfl⟩)
      rw [e]
      exact bodyPost_ret (v := .tuple #[.agg #[.int .i64 (facZ h k), .int .i64 k], .bool true]) (by simp [results, Try.results25, go_sem]) rfl ⟨rfl, (Below.refl _ _).alloc (Nat.le_refl _) _⟩
    · cases k with
      | zero => have := facZ_zero h h0; omega
      | succ j =>
        have hd := (unhide ht).trans (topShift_down h j (by omega))
        have HD := hide hd
        clear hd ht
        go_wp2_with (go_at_call 38; refine (sfactor_any h (j + 1) _ h0 h1 hk).mono ?_; rintro e w' ⟨rfl, rfl⟩)
        go_round
        case rel => exact ⟨j, by omega, by go_num, HD⟩
        case measure => simp [intOf]

def errZ (F S h : Int) : Int := if sclB F S = true ∧ (decide (1 ≤ h) && decide (h ≤ 1099511627776)) = true then nanosZ F S h - 1000000000 else 0
theorem nanosZ_bd (F S c : Int) : 0 ≤ nanosZ F S c ∧ nanosZ F S c ≤ 4611686018427387903 := by
  unfold nanosZ
  split
  · have hr := sclB_true (by assumption)
    have hc := capZ_bd c
    have h1 := Int.mul_nonneg (a := capZ c) (b := F) hc.1 (by omega)
    have h2 := Int.ediv_nonneg (a := capZ c * F) (b := 2 ^ S.toNat) h1 (Int.le_of_lt (pow_toNat_pos S))
    omega
  · omega
set_option maxRecDepth 100000 in
set_option maxHeartbeats 1000000 in
theorem serror_any (F S h : Int) (w : World) :
    Calls Try.prog 26 #[.agg #[.int .i64 F, .int .i64 S], .int .i64 h] w fun e w' => e = .returned (.int .i64 (errZ F S h)) ∧ Below w.heap.size w w' := by
  have hb0 : Below w.heap.size w (w.alloc (.cells #[.int .i64 F, .int .i64 S] 32)) := (Below.refl _ _).alloc (Nat.le_refl _) _
  have R0 : (w.alloc (.cells #[.int .i64 F, .int .i64 S] 32)).cell? ⟨w.heap.size, 0, none⟩ = some (.int .i64 F) := by simp [go_sem]
  have R1 : (w.alloc (.cells #[.int .i64 F, .int .i64 S] 32)).cell? ⟨w.heap.size, 1, none⟩ = some (.int .i64 S) := by simp [go_sem]
  have he : errZ F S h = if sclB F S = true ∧ (decide (1 ≤ h) && decide (h ≤ 1099511627776)) = true then nanosZ F S h - 1000000000 else 0 := rfl
  have hnb := nanosZ_bd F S h
  obtain ⟨B, hB⟩ : ∃ B, (decide (1 ≤ h) && decide (h ≤ 1099511627776)) = B := ⟨_, rfl⟩
  have cR := srated_any h
  rw [hB] at he cR
  rw [he]
  clear hB he
  cases hr : sclB F S
  · rw [if_neg (by simp)]
    go_enter Try.func26, Try.ntmps26
    go_wp2_with (go_at_call 21; refine Hid.out ?_)
    refine hide ?_
    refine (scright_any _ _ _).mono ?_
    rintro e w1 ⟨rfl, hb⟩
    go_wp2_with fail
    go_ret
    exact ⟨rfl, hb0.trans (hb.mono (by simp))⟩
  · cases B
    · rw [if_neg (by simp)]
      go_enter Try.func26, Try.ntmps26
      go_wp2_with (go_at_call 21; refine Hid.out ?_)
      refine hide ?_
      refine (scright_any _ _ _).mono ?_
      rintro e w1 ⟨rfl, hb⟩
      go_wp2_with (go_at_call 37; refine (cR _).mono ?_; rintro e w' ⟨rfl, rfl⟩)
      go_ret
      exact ⟨rfl, hb0.trans (hb.mono (by simp))⟩
    · rw [if_pos (by simp)]
      go_enter Try.func26, Try.ntmps26
      go_wp2_with (go_at_call 21; refine Hid.out ?_)
      refine hide ?_
      refine (scright_any _ _ _).mono ?_
      rintro e w1 ⟨rfl, hb⟩
      have r0 := cell_later hb R0
      have r1 := cell_later hb R1
      go_wp2_with (first | (go_at_call 37; refine (cR _).mono ?_; rintro e w' ⟨rfl, rfl⟩) | (go_at_call 20; refine Hid.out ?_))
      refine hide ?_
      refine (snanos_any _ _ _ _).mono ?_
      rintro e w2 ⟨rfl, hb2⟩
      go_wp2_with fail
      go_ret
      have B1 := hb0.trans (hb.mono (by simp))
      exact ⟨rfl, B1.trans (hb2.mono B1.size)⟩
end Go.Proofs.Ytbmfnpgopafbkaa
