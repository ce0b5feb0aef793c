import Derived.Test.YtbmfnpgopafbkaaDv2
namespace Go.Proofs.Ytbmfnpgopafbkaa
open Go.RowKit Kt

theorem div64_m (m y : Int) (w : World) (m0 : 0 ≤ m) (h : m / 18446744073709551616 < y) (y1 : y < 4294967296) :
    Calls Try.prog 34 #[.int .u64 (m / 18446744073709551616), .int .u64 (m % 18446744073709551616), .int .u64 y] w fun e w' => e = .returned (.tuple #[.int .u64 (m / y), .int .u64 (m % y)]) ∧ ∃ k, w' = w.drewN k := by
  by_cases hz : m / 18446744073709551616 = 0
  · have := div64_low (m % 18446744073709551616) y w (by omega) (by omega) (by omega) y1
    rw [hz]
    rw [show m % 18446744073709551616 = m by omega] at *
    exact this
  · have := div64_high (m / 18446744073709551616) (m % 18446744073709551616) y w (by omega) h (by omega) (by omega) y1
    rw [show m / 18446744073709551616 * 18446744073709551616 + m % 18446744073709551616 = m by omega] at this
    exact this

theorem pow_le32 (k : Nat) (h : k ≤ 32) : (2 : Int) ^ k ≤ 4294967296 := by
  have h1 := Nat.pow_le_pow_right (n := 2) (by omega) h
  have h2 : ((2 ^ k : Nat) : Int) ≤ ((2 ^ 32 : Nat) : Int) := Int.ofNat_le.2 h1
  rw [Int.natCast_pow] at h2
  exact h2
def cycZ (F S n : Int) : Int := if sclB F S = true then (if 4611686018427387903 ≤ capZ n * 2 ^ S.toNat / F then 4611686018427387903 else if 0 < capZ n * 2 ^ S.toNat % F then capZ n * 2 ^ S.toNat / F + 1 else capZ n * 2 ^ S.toNat / F) else 0

set_option maxRecDepth 100000 in
set_option maxHeartbeats 2000000 in
theorem scycles_any (F S n : Int) (w : World) :
    Calls Try.prog 23 #[.agg #[.int .i64 F, .int .i64 S], .int .i64 n] w fun e w' => e = .returned (.int .i64 (cycZ F S n)) ∧ Below w.heap.size w w' := by
  have hb0 : Below w.heap.size w (w.alloc (.cells #[.int .i64 F, .int .i64 S] 32)) := (Below.refl _ _).alloc (Nat.le_refl _) _
  cases hr : sclB F S
  · have hn : cycZ F S n = 0 := by unfold cycZ; rw [hr]; rfl
    rw [hn]
    go_enter Try.func23, Try.ntmps23
    go_wp2_with (go_at_call 21; refine Hid.out ?_)
    refine hide ?_
    refine (scright_any _ _ _).mono ?_
    rintro e w1 ⟨rfl, hb⟩
    go_wp2_with fail
    go_ret
    exact ⟨rfl, hb0.trans (hb.mono (by simp))⟩
  obtain ⟨hF0, hF1, hS0, hS1⟩ := sclB_true hr
  have hu : IntKind.u64.wrap F = F := by simp only [IntKind.wrap_u64]; omega
  have hc := capZ_bd n
  have hp : (0 : Int) < 2 ^ S.toNat := pow_toNat_pos S
  have hp' : (2 : Int) ^ S.toNat ≤ 4294967296 := pow_le32 _ (by omega)
  have hcy : cycZ F S n = (if 4611686018427387903 ≤ capZ n * 2 ^ S.toNat / F then 4611686018427387903 else if 0 < capZ n * 2 ^ S.toNat % F then capZ n * 2 ^ S.toNat / F + 1 else capZ n * 2 ^ S.toNat / F) := by
    unfold cycZ; rw [hr, if_pos rfl]
  obtain ⟨p, hpd⟩ : ∃ p, (2 : Int) ^ S.toNat = p := ⟨_, rfl⟩
  rw [hpd] at hp hp' hcy
  obtain ⟨m, hm⟩ : ∃ m, capZ n * p = m := ⟨_, rfl⟩
  rw [hm] at hcy
  have m0 : 0 ≤ m := by rw [← hm]; exact Int.mul_nonneg hc.1 (by omega)
  have cM := hide (fun w => mul64_z (capZ n) p m hc.1 (by omega) (by omega) (by omega) hm w)
  have R0 : (w.alloc (.cells #[.int .i64 F, .int .i64 S] 32)).cell? ⟨w.heap.size, 0, none⟩ = some (.int .i64 F) := by simp [go_sem]
  have R1 : (w.alloc (.cells #[.int .i64 F, .int .i64 S] 32)).cell? ⟨w.heap.size, 1, none⟩ = some (.int .i64 S) := by simp [go_sem]
  have d0 := Int.ediv_nonneg (a := m) (b := F) m0 (by omega)
  have d1 := Int.emod_nonneg m (b := F) (by omega)
  have hbig : F ≤ m / 18446744073709551616 → 4611686018427387903 ≤ m / F := by
    intro h
    apply Int.le_ediv_of_mul_le (by omega)
    omega
  rw [hcy]
  have HB := hide hbig
  clear hbig hcy hm
  by_cases hh : F ≤ m / 18446744073709551616
  · have hres := unhide HB hh
    rw [if_pos hres]
    go_enter Try.func23, Try.ntmps23
    go_wp2_with (go_at_call 21; refine Hid.out ?_)
    refine hide ?_
    refine (scright_any _ _ _).mono ?_
    rintro e w1 ⟨rfl, hb⟩
    have r0 := cell_later hb R0
    have r1 := cell_later hb R1
    go_wp2_with fail
    go_quiet (first | (go_at_call 33; refine Calls.quiet_of_same (scount_any _ _)) | (go_at_call 32; refine Calls.quiet_of_same (unhide cM _)))
    go_wp2_with fail
    go_ret
    exact ⟨rfl, below_drewN (hb0.trans (hb.mono (by simp))) _⟩
  · have cD := hide (fun w => div64_m m F w m0 (by omega) (by omega))
    have e3 : 4611686018427387903 ≤ m / F ∨ (¬ 4611686018427387903 ≤ m / F ∧ 0 < m % F) ∨ (¬ 4611686018427387903 ≤ m / F ∧ ¬ 0 < m % F) := by omega
    rcases e3 with e3 | ⟨e3, e4⟩ | ⟨e3, e4⟩
    · rw [if_pos e3]
      go_enter Try.func23, Try.ntmps23
      go_wp2_with (go_at_call 21; refine Hid.out ?_)
      refine hide ?_
      refine (scright_any _ _ _).mono ?_
      rintro e w1 ⟨rfl, hb⟩
      have r0 := cell_later hb R0
      have r1 := cell_later hb R1
      go_wp2_with fail
      go_quiet (first | (go_at_call 33; refine Calls.quiet_of_same (scount_any _ _)) | (go_at_call 32; refine Calls.quiet_of_same (unhide cM _)))
      go_wp2_with (go_at_call 34; refine Hid.out ?_)
      refine hide ?_
      refine (unhide cD _).mono ?_
      rintro e w2 ⟨rfl, k, rfl⟩
      go_wp2_with fail
      go_ret
      exact ⟨rfl, below_drewN (hb0.trans (hb.mono (by simp))) _⟩
    · rw [if_neg e3, if_pos e4]
      go_enter Try.func23, Try.ntmps23
      go_wp2_with (go_at_call 21; refine Hid.out ?_)
      refine hide ?_
      refine (scright_any _ _ _).mono ?_
      rintro e w1 ⟨rfl, hb⟩
      have r0 := cell_later hb R0
      have r1 := cell_later hb R1
      go_wp2_with fail
      go_quiet (first | (go_at_call 33; refine Calls.quiet_of_same (scount_any _ _)) | (go_at_call 32; refine Calls.quiet_of_same (unhide cM _)))
      go_wp2_with (go_at_call 34; refine Hid.out ?_)
      refine hide ?_
      refine (unhide cD _).mono ?_
      rintro e w2 ⟨rfl, k, rfl⟩
      go_wp2_with fail
      go_ret
      exact ⟨rfl, below_drewN (hb0.trans (hb.mono (by simp))) _⟩
    · rw [if_neg e3, if_neg e4]
      go_enter Try.func23, Try.ntmps23
      go_wp2_with (go_at_call 21; refine Hid.out ?_)
      refine hide ?_
      refine (scright_any _ _ _).mono ?_
      rintro e w1 ⟨rfl, hb⟩
      have r0 := cell_later hb R0
      have r1 := cell_later hb R1
      go_wp2_with fail
      go_quiet (first | (go_at_call 33; refine Calls.quiet_of_same (scount_any _ _)) | (go_at_call 32; refine Calls.quiet_of_same (unhide cM _)))
      go_wp2_with (go_at_call 34; refine Hid.out ?_)
      refine hide ?_
      refine (unhide cD _).mono ?_
      rintro e w2 ⟨rfl, k, rfl⟩
      go_wp2_with fail
      go_ret
      exact ⟨rfl, below_drewN (hb0.trans (hb.mono (by simp))) _⟩
end Go.Proofs.Ytbmfnpgopafbkaa
