import Derived.Test.YtbmfnpgopafbkaaL4Fixed
import Derived.Test.YtbmfnpgopafbkaaRn3
import Derived.Deep.RegionHeld3
namespace Go.Proofs.Ytbmfnpgopafbkaa
open Go.RowKit Kt

set_option maxRecDepth 1000000 in
set_option maxHeartbeats 2000000 in
theorem lnanos_walk (F S c : Int) (w : World) :
    Calls Try.prog 6 #[.agg #[.int .i64 F, .int .i64 S], .int .i64 c] w fun e w' => e = .returned (.bool true) ∧ Below w.heap.size w w' := by
  obtain ⟨W0, hW0⟩ : ∃ W0, W0 = w.alloc (.cells #[.int .i64 F, .int .i64 S] 32) := ⟨_, rfl⟩
  have B0 : Below w.heap.size w W0 := by rw [hW0]; exact (Below.refl _ _).alloc (Nat.le_refl _) _
  have r0 := held4 (W := W0) (v := .int .i64 F) (a := ⟨w.heap.size, 0, none⟩) (by rw [hW0]; simp [go_sem])
  have r1 := held4 (W := W0) (v := .int .i64 S) (a := ⟨w.heap.size, 1, none⟩) (by rw [hW0]; simp [go_sem])
  have HW := hide hW0
  clear hW0
  cases hr : sclB F S
  · have e1 : nanosZ F S c = 0 := by unfold nanosZ; rw [hr]; rfl
    have e2 : cycZ F S c = 0 := by unfold cycZ; rw [hr]; rfl
    have CR := hide True.intro
    go_enter Try.func6, Try.ntmps6
    go_wp2_with (go_at_call 19; refine Hid.out ?_)
    refine hide ?_
    rw [← unhide HW]
    refine (fixed4_any _).mono ?_
    rintro e w3 ⟨rfl, S3⟩
    go_wp2_with (first | (go_at_call 20; refine (snanos_any _ _ _ _).mono ?_; rintro e w4 ⟨rfl, hb4⟩; have hk4 := Below.trans (by assumption) (hb4.mono (Below.size (by assumption)))) | (go_at_call 23; refine (scycles_any _ _ _ _).mono ?_; rintro e w4 ⟨rfl, hb4⟩; have hk4 := Below.trans (by assumption) (hb4.mono (Below.size (by assumption)))) | (go_at_call 21; refine (scright_any _ _ _).mono ?_; rintro e w4 ⟨rfl, hb4⟩; have hk4 := Below.trans (by assumption) (hb4.mono (Below.size (by assumption)))) | (go_at_call 22; refine (lright_any _ _ _).mono ?_; rintro e w4 ⟨rfl, hb4⟩; have hk4 := Below.trans (by assumption) (hb4.mono (Below.size (by assumption)))) | (go_at_call 24; refine (unhide CR _).mono ?_; rintro e w4 ⟨rfl, hb4⟩; have hk4 := Below.trans (by assumption) (hb4.mono (Below.size (by assumption)))))
    go_region_held3 (fun w' => Below W0.heap.size W0 w') (first | exact Below.drew (by assumption) | assumption) (first | (go_at_call 20; refine (snanos_any _ _ _ _).mono ?_; rintro e w4 ⟨rfl, hb4⟩; have hk4 := Below.trans (by assumption) (hb4.mono (Below.size (by assumption)))) | (go_at_call 23; refine (scycles_any _ _ _ _).mono ?_; rintro e w4 ⟨rfl, hb4⟩; have hk4 := Below.trans (by assumption) (hb4.mono (Below.size (by assumption)))) | (go_at_call 21; refine (scright_any _ _ _).mono ?_; rintro e w4 ⟨rfl, hb4⟩; have hk4 := Below.trans (by assumption) (hb4.mono (Below.size (by assumption)))) | (go_at_call 22; refine (lright_any _ _ _).mono ?_; rintro e w4 ⟨rfl, hb4⟩; have hk4 := Below.trans (by assumption) (hb4.mono (Below.size (by assumption)))) | (go_at_call 24; refine (unhide CR _).mono ?_; rintro e w4 ⟨rfl, hb4⟩; have hk4 := Below.trans (by assumption) (hb4.mono (Below.size (by assumption)))))
    go_wp2_with (first | (go_at_call 20; refine (snanos_any _ _ _ _).mono ?_; rintro e w4 ⟨rfl, hb4⟩; have hk4 := Below.trans (by assumption) (hb4.mono (Below.size (by assumption)))) | (go_at_call 23; refine (scycles_any _ _ _ _).mono ?_; rintro e w4 ⟨rfl, hb4⟩; have hk4 := Below.trans (by assumption) (hb4.mono (Below.size (by assumption)))) | (go_at_call 21; refine (scright_any _ _ _).mono ?_; rintro e w4 ⟨rfl, hb4⟩; have hk4 := Below.trans (by assumption) (hb4.mono (Below.size (by assumption)))) | (go_at_call 22; refine (lright_any _ _ _).mono ?_; rintro e w4 ⟨rfl, hb4⟩; have hk4 := Below.trans (by assumption) (hb4.mono (Below.size (by assumption)))) | (go_at_call 24; refine (unhide CR _).mono ?_; rintro e w4 ⟨rfl, hb4⟩; have hk4 := Below.trans (by assumption) (hb4.mono (Below.size (by assumption)))))
    go_ret
    exact ⟨rfl, B0.trans (Below.mono (B := W0.heap.size) (by assumption) B0.size)⟩
  · obtain ⟨hF0, hF1, hS0, hS1⟩ := sclB_true hr
    obtain ⟨s, rfl⟩ := Int.eq_ofNat_of_zero_le hS0
    have CR := hide (fun w => rnanos_any F c s w hF0 hF1 (by omega))
    go_enter Try.func6, Try.ntmps6
    go_wp2_with (go_at_call 19; refine Hid.out ?_)
    refine hide ?_
    rw [← unhide HW]
    refine (fixed4_any _).mono ?_
    rintro e w3 ⟨rfl, S3⟩
    go_wp2_with (first | (go_at_call 20; refine (snanos_any _ _ _ _).mono ?_; rintro e w4 ⟨rfl, hb4⟩; have hk4 := Below.trans (by assumption) (hb4.mono (Below.size (by assumption)))) | (go_at_call 23; refine (scycles_any _ _ _ _).mono ?_; rintro e w4 ⟨rfl, hb4⟩; have hk4 := Below.trans (by assumption) (hb4.mono (Below.size (by assumption)))) | (go_at_call 21; refine (scright_any _ _ _).mono ?_; rintro e w4 ⟨rfl, hb4⟩; have hk4 := Below.trans (by assumption) (hb4.mono (Below.size (by assumption)))) | (go_at_call 22; refine (lright_any _ _ _).mono ?_; rintro e w4 ⟨rfl, hb4⟩; have hk4 := Below.trans (by assumption) (hb4.mono (Below.size (by assumption)))) | (go_at_call 24; refine (unhide CR _).mono ?_; rintro e w4 ⟨rfl, hb4⟩; have hk4 := Below.trans (by assumption) (hb4.mono (Below.size (by assumption)))))
    go_region_held3 (fun w' => Below W0.heap.size W0 w') (first | exact Below.drew (by assumption) | assumption) (first | (go_at_call 20; refine (snanos_any _ _ _ _).mono ?_; rintro e w4 ⟨rfl, hb4⟩; have hk4 := Below.trans (by assumption) (hb4.mono (Below.size (by assumption)))) | (go_at_call 23; refine (scycles_any _ _ _ _).mono ?_; rintro e w4 ⟨rfl, hb4⟩; have hk4 := Below.trans (by assumption) (hb4.mono (Below.size (by assumption)))) | (go_at_call 21; refine (scright_any _ _ _).mono ?_; rintro e w4 ⟨rfl, hb4⟩; have hk4 := Below.trans (by assumption) (hb4.mono (Below.size (by assumption)))) | (go_at_call 22; refine (lright_any _ _ _).mono ?_; rintro e w4 ⟨rfl, hb4⟩; have hk4 := Below.trans (by assumption) (hb4.mono (Below.size (by assumption)))) | (go_at_call 24; refine (unhide CR _).mono ?_; rintro e w4 ⟨rfl, hb4⟩; have hk4 := Below.trans (by assumption) (hb4.mono (Below.size (by assumption)))))
    go_wp2_with (first | (go_at_call 20; refine (snanos_any _ _ _ _).mono ?_; rintro e w4 ⟨rfl, hb4⟩; have hk4 := Below.trans (by assumption) (hb4.mono (Below.size (by assumption)))) | (go_at_call 23; refine (scycles_any _ _ _ _).mono ?_; rintro e w4 ⟨rfl, hb4⟩; have hk4 := Below.trans (by assumption) (hb4.mono (Below.size (by assumption)))) | (go_at_call 21; refine (scright_any _ _ _).mono ?_; rintro e w4 ⟨rfl, hb4⟩; have hk4 := Below.trans (by assumption) (hb4.mono (Below.size (by assumption)))) | (go_at_call 22; refine (lright_any _ _ _).mono ?_; rintro e w4 ⟨rfl, hb4⟩; have hk4 := Below.trans (by assumption) (hb4.mono (Below.size (by assumption)))) | (go_at_call 24; refine (unhide CR _).mono ?_; rintro e w4 ⟨rfl, hb4⟩; have hk4 := Below.trans (by assumption) (hb4.mono (Below.size (by assumption)))))
    go_ret
    exact ⟨rfl, B0.trans (Below.mono (B := W0.heap.size) (by assumption) B0.size)⟩

theorem capZ_mono {a b : Int} (h : a ≤ b) : capZ a ≤ capZ b := by unfold capZ; omega
theorem nanosZ_mono (F S : Int) {a b : Int} (h : a ≤ b) : nanosZ F S a ≤ nanosZ F S b := by
  unfold nanosZ
  split
  · have hr := sclB_true (by assumption)
    have h1 : capZ a * F ≤ capZ b * F := Int.mul_le_mul_of_nonneg_right (capZ_mono h) (by omega)
    have h2 := Int.ediv_le_ediv (pow_toNat_pos S) h1
    omega
  · omega
theorem cyc_ceil (F S n : Int) (h : sclB F S = true) : cycZ F S n = min ((capZ n * 2 ^ S.toNat + (F - 1)) / F) 4611686018427387903 := by
  have hr := sclB_true h
  unfold cycZ
  rw [if_pos h]
  generalize capZ n * 2 ^ S.toNat = m
  have hm := Int.mul_ediv_add_emod m F
  have h0 := Int.emod_nonneg m (b := F) (by omega)
  have h1 := Int.emod_lt_of_pos m (b := F) (by omega)
  have e : (m + (F - 1)) / F = if 0 < m % F then m / F + 1 else m / F := by
    have e1 : m + (F - 1) = (m % F + (F - 1)) + F * (m / F) := by omega
    rw [e1, Int.add_mul_ediv_left _ _ (by omega)]
    split
    · have : (m % F + (F - 1)) / F = 1 := by
        rw [show m % F + (F - 1) = (m % F - 1) + F * 1 by omega, Int.add_mul_ediv_left _ _ (by omega), Int.ediv_eq_zero_of_lt (by omega) (by omega)]; rfl
      omega
    · have : (m % F + (F - 1)) / F = 0 := Int.ediv_eq_zero_of_lt (by omega) (by omega)
      omega
  rw [e]
  repeat' split
  all_goals omega
theorem cycZ_mono (F S : Int) {a b : Int} (h : a ≤ b) : cycZ F S a ≤ cycZ F S b := by
  cases hr : sclB F S
  · unfold cycZ; simp [hr]
  · rw [cyc_ceil F S a hr, cyc_ceil F S b hr]
    have hs := sclB_true hr
    have h1 : capZ a * 2 ^ S.toNat ≤ capZ b * 2 ^ S.toNat := Int.mul_le_mul_of_nonneg_right (capZ_mono h) (Int.le_of_lt (pow_toNat_pos S))
    have h2 := Int.ediv_le_ediv (c := F) (by omega) (show capZ a * 2 ^ S.toNat + (F - 1) ≤ capZ b * 2 ^ S.toNat + (F - 1) by omega)
    omega
theorem nanosZ_zero (F S : Int) : nanosZ F S 0 = 0 := by
  unfold nanosZ
  rw [show capZ 0 = 0 from rfl, Int.zero_mul, Int.zero_ediv]
  split <;> rfl
theorem cycZ_zero (F S : Int) : cycZ F S 0 = 0 := by
  unfold cycZ
  rw [show capZ 0 = 0 from rfl]; simp

set_option maxRecDepth 1000000 in
set_option maxHeartbeats 2000000 in
theorem lrises_walk (F S a b : Int) (w : World) :
    Calls Try.prog 9 #[.agg #[.int .i64 F, .int .i64 S], .int .i64 a, .int .i64 b] w fun e w' => e = .returned (.bool true) ∧ Below w.heap.size w w' := by
  obtain ⟨W0, hW0⟩ : ∃ W0, W0 = w.alloc (.cells #[.int .i64 F, .int .i64 S] 32) := ⟨_, rfl⟩
  have B0 : Below w.heap.size w W0 := by rw [hW0]; exact (Below.refl _ _).alloc (Nat.le_refl _) _
  have r0 := held4 (W := W0) (v := .int .i64 F) (a := ⟨w.heap.size, 0, none⟩) (by rw [hW0]; simp [go_sem])
  have r1 := held4 (W := W0) (v := .int .i64 S) (a := ⟨w.heap.size, 1, none⟩) (by rw [hW0]; simp [go_sem])
  have HW := hide hW0
  clear hW0
  have CR := hide True.intro
  have e1 := nanosZ_zero F S
  have e2 := cycZ_zero F S
  rcases (show a < b ∨ a = b ∨ b < a by omega) with h | h | h
  · have m1 := nanosZ_mono F S (Int.le_of_lt h)
    have m2 := cycZ_mono F S (Int.le_of_lt h)
    have m3 := (nanosZ_bd F S b).2
    go_enter Try.func9, Try.ntmps9
    go_wp2_with (go_at_call 19; refine Hid.out ?_)
    refine hide ?_
    rw [← unhide HW]
    refine (fixed4_any _).mono ?_
    rintro e w3 ⟨rfl, S3⟩
    go_wp2_with (first | (go_at_call 20; refine (snanos_any _ _ _ _).mono ?_; rintro e w4 ⟨rfl, hb4⟩; have hk4 := Below.trans (by assumption) (hb4.mono (Below.size (by assumption)))) | (go_at_call 23; refine (scycles_any _ _ _ _).mono ?_; rintro e w4 ⟨rfl, hb4⟩; have hk4 := Below.trans (by assumption) (hb4.mono (Below.size (by assumption)))) | (go_at_call 21; refine (scright_any _ _ _).mono ?_; rintro e w4 ⟨rfl, hb4⟩; have hk4 := Below.trans (by assumption) (hb4.mono (Below.size (by assumption)))) | (go_at_call 22; refine (lright_any _ _ _).mono ?_; rintro e w4 ⟨rfl, hb4⟩; have hk4 := Below.trans (by assumption) (hb4.mono (Below.size (by assumption)))) | (go_at_call 24; refine (unhide CR _).mono ?_; rintro e w4 ⟨rfl, hb4⟩; have hk4 := Below.trans (by assumption) (hb4.mono (Below.size (by assumption)))))
    go_region_held3 (fun w' => Below W0.heap.size W0 w') (first | exact Below.drew (by assumption) | assumption) (first | (go_at_call 20; refine (snanos_any _ _ _ _).mono ?_; rintro e w4 ⟨rfl, hb4⟩; have hk4 := Below.trans (by assumption) (hb4.mono (Below.size (by assumption)))) | (go_at_call 23; refine (scycles_any _ _ _ _).mono ?_; rintro e w4 ⟨rfl, hb4⟩; have hk4 := Below.trans (by assumption) (hb4.mono (Below.size (by assumption)))) | (go_at_call 21; refine (scright_any _ _ _).mono ?_; rintro e w4 ⟨rfl, hb4⟩; have hk4 := Below.trans (by assumption) (hb4.mono (Below.size (by assumption)))) | (go_at_call 22; refine (lright_any _ _ _).mono ?_; rintro e w4 ⟨rfl, hb4⟩; have hk4 := Below.trans (by assumption) (hb4.mono (Below.size (by assumption)))) | (go_at_call 24; refine (unhide CR _).mono ?_; rintro e w4 ⟨rfl, hb4⟩; have hk4 := Below.trans (by assumption) (hb4.mono (Below.size (by assumption)))))
    go_wp2_with (first | (go_at_call 20; refine (snanos_any _ _ _ _).mono ?_; rintro e w4 ⟨rfl, hb4⟩; have hk4 := Below.trans (by assumption) (hb4.mono (Below.size (by assumption)))) | (go_at_call 23; refine (scycles_any _ _ _ _).mono ?_; rintro e w4 ⟨rfl, hb4⟩; have hk4 := Below.trans (by assumption) (hb4.mono (Below.size (by assumption)))) | (go_at_call 21; refine (scright_any _ _ _).mono ?_; rintro e w4 ⟨rfl, hb4⟩; have hk4 := Below.trans (by assumption) (hb4.mono (Below.size (by assumption)))) | (go_at_call 22; refine (lright_any _ _ _).mono ?_; rintro e w4 ⟨rfl, hb4⟩; have hk4 := Below.trans (by assumption) (hb4.mono (Below.size (by assumption)))) | (go_at_call 24; refine (unhide CR _).mono ?_; rintro e w4 ⟨rfl, hb4⟩; have hk4 := Below.trans (by assumption) (hb4.mono (Below.size (by assumption)))))
    go_ret
    exact ⟨rfl, B0.trans (Below.mono (B := W0.heap.size) (by assumption) B0.size)⟩
  · subst h
    have m1 := Int.le_refl (nanosZ F S a)
    have m2 := Int.le_refl (cycZ F S a)
    have m3 := (nanosZ_bd F S a).2
    go_enter Try.func9, Try.ntmps9
    go_wp2_with (go_at_call 19; refine Hid.out ?_)
    refine hide ?_
    rw [← unhide HW]
    refine (fixed4_any _).mono ?_
    rintro e w3 ⟨rfl, S3⟩
    go_wp2_with (first | (go_at_call 20; refine (snanos_any _ _ _ _).mono ?_; rintro e w4 ⟨rfl, hb4⟩; have hk4 := Below.trans (by assumption) (hb4.mono (Below.size (by assumption)))) | (go_at_call 23; refine (scycles_any _ _ _ _).mono ?_; rintro e w4 ⟨rfl, hb4⟩; have hk4 := Below.trans (by assumption) (hb4.mono (Below.size (by assumption)))) | (go_at_call 21; refine (scright_any _ _ _).mono ?_; rintro e w4 ⟨rfl, hb4⟩; have hk4 := Below.trans (by assumption) (hb4.mono (Below.size (by assumption)))) | (go_at_call 22; refine (lright_any _ _ _).mono ?_; rintro e w4 ⟨rfl, hb4⟩; have hk4 := Below.trans (by assumption) (hb4.mono (Below.size (by assumption)))) | (go_at_call 24; refine (unhide CR _).mono ?_; rintro e w4 ⟨rfl, hb4⟩; have hk4 := Below.trans (by assumption) (hb4.mono (Below.size (by assumption)))))
    go_region_held3 (fun w' => Below W0.heap.size W0 w') (first | exact Below.drew (by assumption) | assumption) (first | (go_at_call 20; refine (snanos_any _ _ _ _).mono ?_; rintro e w4 ⟨rfl, hb4⟩; have hk4 := Below.trans (by assumption) (hb4.mono (Below.size (by assumption)))) | (go_at_call 23; refine (scycles_any _ _ _ _).mono ?_; rintro e w4 ⟨rfl, hb4⟩; have hk4 := Below.trans (by assumption) (hb4.mono (Below.size (by assumption)))) | (go_at_call 21; refine (scright_any _ _ _).mono ?_; rintro e w4 ⟨rfl, hb4⟩; have hk4 := Below.trans (by assumption) (hb4.mono (Below.size (by assumption)))) | (go_at_call 22; refine (lright_any _ _ _).mono ?_; rintro e w4 ⟨rfl, hb4⟩; have hk4 := Below.trans (by assumption) (hb4.mono (Below.size (by assumption)))) | (go_at_call 24; refine (unhide CR _).mono ?_; rintro e w4 ⟨rfl, hb4⟩; have hk4 := Below.trans (by assumption) (hb4.mono (Below.size (by assumption)))))
    go_wp2_with (first | (go_at_call 20; refine (snanos_any _ _ _ _).mono ?_; rintro e w4 ⟨rfl, hb4⟩; have hk4 := Below.trans (by assumption) (hb4.mono (Below.size (by assumption)))) | (go_at_call 23; refine (scycles_any _ _ _ _).mono ?_; rintro e w4 ⟨rfl, hb4⟩; have hk4 := Below.trans (by assumption) (hb4.mono (Below.size (by assumption)))) | (go_at_call 21; refine (scright_any _ _ _).mono ?_; rintro e w4 ⟨rfl, hb4⟩; have hk4 := Below.trans (by assumption) (hb4.mono (Below.size (by assumption)))) | (go_at_call 22; refine (lright_any _ _ _).mono ?_; rintro e w4 ⟨rfl, hb4⟩; have hk4 := Below.trans (by assumption) (hb4.mono (Below.size (by assumption)))) | (go_at_call 24; refine (unhide CR _).mono ?_; rintro e w4 ⟨rfl, hb4⟩; have hk4 := Below.trans (by assumption) (hb4.mono (Below.size (by assumption)))))
    go_ret
    exact ⟨rfl, B0.trans (Below.mono (B := W0.heap.size) (by assumption) B0.size)⟩
  · have m1 := nanosZ_mono F S (Int.le_of_lt h)
    have m2 := cycZ_mono F S (Int.le_of_lt h)
    have m3 := (nanosZ_bd F S a).2
    go_enter Try.func9, Try.ntmps9
    go_wp2_with (go_at_call 19; refine Hid.out ?_)
    refine hide ?_
    rw [← unhide HW]
    refine (fixed4_any _).mono ?_
    rintro e w3 ⟨rfl, S3⟩
    go_wp2_with (first | (go_at_call 20; refine (snanos_any _ _ _ _).mono ?_; rintro e w4 ⟨rfl, hb4⟩; have hk4 := Below.trans (by assumption) (hb4.mono (Below.size (by assumption)))) | (go_at_call 23; refine (scycles_any _ _ _ _).mono ?_; rintro e w4 ⟨rfl, hb4⟩; have hk4 := Below.trans (by assumption) (hb4.mono (Below.size (by assumption)))) | (go_at_call 21; refine (scright_any _ _ _).mono ?_; rintro e w4 ⟨rfl, hb4⟩; have hk4 := Below.trans (by assumption) (hb4.mono (Below.size (by assumption)))) | (go_at_call 22; refine (lright_any _ _ _).mono ?_; rintro e w4 ⟨rfl, hb4⟩; have hk4 := Below.trans (by assumption) (hb4.mono (Below.size (by assumption)))) | (go_at_call 24; refine (unhide CR _).mono ?_; rintro e w4 ⟨rfl, hb4⟩; have hk4 := Below.trans (by assumption) (hb4.mono (Below.size (by assumption)))))
    go_region_held3 (fun w' => Below W0.heap.size W0 w') (first | exact Below.drew (by assumption) | assumption) (first | (go_at_call 20; refine (snanos_any _ _ _ _).mono ?_; rintro e w4 ⟨rfl, hb4⟩; have hk4 := Below.trans (by assumption) (hb4.mono (Below.size (by assumption)))) | (go_at_call 23; refine (scycles_any _ _ _ _).mono ?_; rintro e w4 ⟨rfl, hb4⟩; have hk4 := Below.trans (by assumption) (hb4.mono (Below.size (by assumption)))) | (go_at_call 21; refine (scright_any _ _ _).mono ?_; rintro e w4 ⟨rfl, hb4⟩; have hk4 := Below.trans (by assumption) (hb4.mono (Below.size (by assumption)))) | (go_at_call 22; refine (lright_any _ _ _).mono ?_; rintro e w4 ⟨rfl, hb4⟩; have hk4 := Below.trans (by assumption) (hb4.mono (Below.size (by assumption)))) | (go_at_call 24; refine (unhide CR _).mono ?_; rintro e w4 ⟨rfl, hb4⟩; have hk4 := Below.trans (by assumption) (hb4.mono (Below.size (by assumption)))))
    go_wp2_with (first | (go_at_call 20; refine (snanos_any _ _ _ _).mono ?_; rintro e w4 ⟨rfl, hb4⟩; have hk4 := Below.trans (by assumption) (hb4.mono (Below.size (by assumption)))) | (go_at_call 23; refine (scycles_any _ _ _ _).mono ?_; rintro e w4 ⟨rfl, hb4⟩; have hk4 := Below.trans (by assumption) (hb4.mono (Below.size (by assumption)))) | (go_at_call 21; refine (scright_any _ _ _).mono ?_; rintro e w4 ⟨rfl, hb4⟩; have hk4 := Below.trans (by assumption) (hb4.mono (Below.size (by assumption)))) | (go_at_call 22; refine (lright_any _ _ _).mono ?_; rintro e w4 ⟨rfl, hb4⟩; have hk4 := Below.trans (by assumption) (hb4.mono (Below.size (by assumption)))) | (go_at_call 24; refine (unhide CR _).mono ?_; rintro e w4 ⟨rfl, hb4⟩; have hk4 := Below.trans (by assumption) (hb4.mono (Below.size (by assumption)))))
    go_ret
    exact ⟨rfl, B0.trans (Below.mono (B := W0.heap.size) (by assumption) B0.size)⟩
end Go.Proofs.Ytbmfnpgopafbkaa
