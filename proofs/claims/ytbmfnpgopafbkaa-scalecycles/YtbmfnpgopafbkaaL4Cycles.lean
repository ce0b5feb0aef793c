import Derived.Test.YtbmfnpgopafbkaaL4Nanos
namespace Go.Proofs.Ytbmfnpgopafbkaa
open Go.RowKit Kt

theorem cyc_law (F S n : Int) (h : sclB F S = true) : 0 ≤ cycZ F S n ∧ cycZ F S n ≤ 4611686018427387903 ∧ ((nanosZ F S (cycZ F S n) < capZ n ∧ cycZ F S n = 4611686018427387903) ∨ (capZ n ≤ nanosZ F S (cycZ F S n) ∧ (cycZ F S n = 0 ∨ (1 ≤ cycZ F S n ∧ nanosZ F S (cycZ F S n - 1) < capZ n)))) := by
  have hr := sclB_true h
  have hc := cyc_ceil F S n h
  have hp := pow_toNat_pos S
  have hW := capZ_bd n
  have hn : ∀ c, 0 ≤ c → c ≤ 4611686018427387903 → nanosZ F S c = min (c * F / 2 ^ S.toNat) 4611686018427387903 := by
    intro c h0 h1
    unfold nanosZ
    rw [if_pos h, show capZ c = c by unfold capZ; omega]
  generalize capZ n = W at *
  generalize (2 : Int) ^ S.toNat = P at *
  obtain ⟨q, hq⟩ : ∃ q, (W * P + (F - 1)) / F = q := ⟨_, rfl⟩
  have hWP : 0 ≤ W * P := Int.mul_nonneg hW.1 (by omega)
  have q0 : 0 ≤ q := by rw [← hq]; exact Int.ediv_nonneg (by omega) (by omega)
  have q1 : W * P ≤ q * F := by
    have := Int.lt_ediv_add_one_mul_self (W * P + (F - 1)) (b := F) (by omega)
    rw [hq, Int.add_mul] at this; omega
  have q2 : (q - 1) * F < W * P := by
    have := Int.ediv_mul_le (W * P + (F - 1)) (b := F) (by omega)
    rw [hq] at this; rw [Int.sub_mul]; omega
  rw [hq] at hc
  have c0 : 0 ≤ cycZ F S n := by omega
  have c1 : cycZ F S n ≤ 4611686018427387903 := by omega
  generalize cycZ F S n = c at *
  refine ⟨c0, c1, ?_⟩
  by_cases hlt : nanosZ F S c < W
  · refine .inl ⟨hlt, ?_⟩
    by_cases hcq : c = q
    · subst hcq
      rw [hn c c0 c1] at hlt
      have : W ≤ c * F / P := Int.le_ediv_of_mul_le hp q1
      omega
    · omega
  · refine .inr ⟨by omega, ?_⟩
    by_cases hz : c = 0
    · exact .inl hz
    · refine .inr ⟨by omega, ?_⟩
      rw [hn (c - 1) (by omega) (by omega)]
      have h1 : (c - 1) * F ≤ (q - 1) * F := Int.mul_le_mul_of_nonneg_right (by omega) (by omega)
      have : (c - 1) * F / P < W := Int.ediv_lt_of_lt_mul hp (by omega)
      omega

set_option maxRecDepth 1000000 in
set_option maxHeartbeats 4000000 in
theorem lcycles_walk (F S n : Int) (w : World) :
    Calls Try.prog 7 #[.agg #[.int .i64 F, .int .i64 S], .int .i64 n] w fun e w' => e = .returned (.bool true) ∧ Below w.heap.size w w' := by
  obtain ⟨W0, hW0⟩ : ∃ W0, W0 = w.alloc (.cells #[.int .i64 F, .int .i64 S] 32) := ⟨_, rfl⟩
  have B0 : Below w.heap.size w W0 := by rw [hW0]; exact (Below.refl _ _).alloc (Nat.le_refl _) _
  have r0 := held4 (W := W0) (v := .int .i64 F) (a := ⟨w.heap.size, 0, none⟩) (by rw [hW0]; simp [go_sem])
  have r1 := held4 (W := W0) (v := .int .i64 S) (a := ⟨w.heap.size, 1, none⟩) (by rw [hW0]; simp [go_sem])
  have HW := hide hW0
  clear hW0
  cases hr : sclB F S
  · go_enter Try.func7, Try.ntmps7
    go_wp2_with (go_at_call 19; refine Hid.out ?_)
    refine hide ?_
    rw [← unhide HW]
    refine (fixed4_any _).mono ?_
    rintro e w3 ⟨rfl, S3⟩
    go_wp2_with (go_at_call 22; refine (lright_any _ _ _).mono ?_; rintro e w4 ⟨rfl, hb4⟩; have hk4 := Below.trans (by assumption) (hb4.mono (Below.size (by assumption))))
    go_ret
    exact ⟨rfl, B0.trans (Below.mono (B := W0.heap.size) (by assumption) B0.size)⟩
  · obtain ⟨hF0, hF1, hS0, hS1⟩ := sclB_true hr
    obtain ⟨s, rfl⟩ := Int.eq_ofNat_of_zero_le hS0
    have hs32 : s ≤ 32 := by omega
    have hcap : capZ n = min (max n 0) 4611686018427387903 := rfl
    have hcs : (n < 0 ∧ capZ n = 0) ∨ (0 ≤ n ∧ n ≤ 4611686018427387903 ∧ capZ n = n) ∨ (0 ≤ n ∧ 4611686018427387903 < n ∧ capZ n = 4611686018427387903) := by omega
    clear hcap
    obtain ⟨k0, k1, hk⟩ := cyc_law F s n hr
    obtain ⟨c, hc⟩ : ∃ c, cycZ F s n = c := ⟨_, rfl⟩
    rw [hc] at k0 k1 hk
    rcases hcs with ⟨h1, h2⟩ | ⟨h1, h1', h2⟩ | ⟨h1, h1', h2⟩
    all_goals
      rw [h2] at hk
      clear h2
      rcases hk with ⟨j1, j2⟩ | ⟨j1, j2 | ⟨j2, j3⟩⟩
      all_goals
        try subst j2
        go_enter Try.func7, Try.ntmps7
        go_wp2_with (go_at_call 19; refine Hid.out ?_)
        refine hide ?_
        rw [← unhide HW]
        refine (fixed4_any _).mono ?_
        rintro e w3 ⟨rfl, S3⟩
        go_wp2_with (first | (go_at_call 23; refine (scycles_any _ _ _ _).mono ?_; rintro e w4 ⟨rfl, hb4⟩; have hk4 := Below.trans (by assumption) (hb4.mono (Below.size (by assumption)))) | (go_at_call 22; refine (lright_any _ _ _).mono ?_; rintro e w4 ⟨rfl, hb4⟩; have hk4 := Below.trans (by assumption) (hb4.mono (Below.size (by assumption)))) | (go_at_call 24; refine (rnanos_any _ _ _ _ hF0 hF1 hs32).mono ?_; rintro e w4 ⟨rfl, hb4⟩; have hk4 := Below.trans (by assumption) (hb4.mono (Below.size (by assumption)))))
        go_ret
        exact ⟨rfl, B0.trans (Below.mono (B := W0.heap.size) (by assumption) B0.size)⟩
end Go.Proofs.Ytbmfnpgopafbkaa
