import Derived.Test.YtbmfnpgopafbkaaL4Fixed
import Derived.Test.YtbmfnpgopafbkaaRn3
namespace Go.Proofs.Ytbmfnpgopafbkaa
open Go.RowKit Kt

theorem fac_round (h : Int) (k : Nat) (h0 : 1 ≤ h) : (2 * (1000000000 * 2 ^ k) / h + 1) / 2 = facZ h k := by
  unfold facZ
  have hp : (0 : Int) < 2 ^ k := Int.pow_pos (by omega)
  generalize (1000000000 : Int) * 2 ^ k = A at *
  have h1 := Int.ediv_mul_le (A + h / 2) (b := h) (by omega)
  have h2 := Int.lt_ediv_add_one_mul_self (A + h / 2) (b := h) (by omega)
  generalize (A + h / 2) / h = q at *
  rw [Int.add_mul] at h2
  have e1 : 2 * q - 1 ≤ 2 * A / h := Int.le_ediv_of_mul_le (by omega) (by rw [Int.sub_mul, Int.mul_assoc]; omega)
  have e2 : 2 * A / h < 2 * q + 1 := Int.ediv_lt_of_lt_mul (by omega) (by rw [Int.add_mul, Int.mul_assoc]; omega)
  omega
theorem facZ_pos (h : Int) (h0 : 1 ≤ h) (h1 : h ≤ 1099511627776) : 1 ≤ facZ h (topShift h 32) := by
  have hbig : 1 ≤ facZ h 32 := by
    unfold facZ
    exact Int.le_ediv_of_mul_le (by omega) (by omega)
  suffices hs : ∀ k, 1 ≤ facZ h k → 1 ≤ facZ h (topShift h k) from hs 32 hbig
  intro k
  induction k with
  | zero => intro hf; exact hf
  | succ n ih =>
    intro hf
    by_cases hgt : 4294967295 < facZ h (n + 1)
    · rw [topShift_down h n hgt]
      apply ih
      have h2 : facZ h (n + 1) ≤ 2 * facZ h n + 1 := by
        unfold facZ
        rw [Int.pow_succ]
        generalize (2 : Int) ^ n = p
        have a1 := Int.lt_ediv_add_one_mul_self (1000000000 * p + h / 2) (b := h) (by omega)
        generalize (1000000000 * p + h / 2) / h = q at *
        rw [Int.add_mul] at a1
        apply Int.le_of_lt_add_one
        apply Int.ediv_lt_of_lt_mul (by omega)
        rw [Int.add_mul, Int.add_mul, Int.mul_assoc]; omega
      omega
    · rw [topShift_at h (n + 1) (by omega)]; exact hf

set_option maxRecDepth 1000000 in
set_option maxHeartbeats 1000000 in
theorem rmake_any (h : Int) (w : World) (h0 : 1000 ≤ h) (h1 : h ≤ 1099511627776) :
    Calls Try.prog 27 #[.int .i64 h] w fun e w' => e = .returned (.tuple #[.int .i64 (facZ h (topShift h 32)), .int .i64 (topShift h 32 : Nat), .bool true]) ∧ Below w.heap.size w w' := by
  have hz : (h == 0) = false := by simp; omega
  have hpos := facZ_pos h (by omega) h1
  go_enter Try.func27, Try.ntmps27
  go_wp2
  go_loop [5] (fun t5 => ∃ k : Nat, k ≤ 32 ∧ t5 = .int .i64 k ∧ Hid (topShift h 32 = topShift h k)) (fun t5 => (intOf t5).toNat)
  case atStart => exact ⟨32, by omega, rfl, hide rfl⟩
  case round =>
    obtain ⟨k, hk, rfl, ht⟩ := hrel
    have hr := fac_round h k (by omega)
    have p0 : (0 : Int) < 2 ^ k := Int.pow_pos (by omega)
    have p1 := pow_le32 k hk
    have q0 := Int.ediv_nonneg (a := 2 * (1000000000 * 2 ^ k)) (b := h) (by omega) (by omega)
    have q1 := Int.ediv_le_self (a := 2 * (1000000000 * 2 ^ k)) h (by omega)
    by_cases hf : facZ h k ≤ 4294967295
    · have e := (unhide ht).trans (topShift_at h k hf)
      rw [e] at hpos
      have hd : decide (0 < facZ h k) = true := by simp; omega
      go_wp2
      go_ret3
      exact ⟨rfl, Below.refl _ _⟩
    · cases k with
      | zero => have := facZ_zero h (by omega); omega
      | succ j =>
        have hd := (unhide ht).trans (topShift_down h j (by omega))
        have HD := hide hd
        clear hd ht
        go_wp2
        go_round
        case rel => exact ⟨j, by omega, by go_num, HD⟩
        case measure => simp [intOf]

set_option maxRecDepth 1000000 in
set_option maxHeartbeats 4000000 in
theorem lmakes_bad (h : Int) (w : World) (hr : (decide (1 ≤ h) && decide (h ≤ 1099511627776)) = false) :
    Calls Try.prog 8 #[.int .i64 h] w fun e w' => e = .returned (.bool true) ∧ Below w.heap.size w w' := by
  have he : errZ 1 0 h = 0 := by unfold errZ; rw [if_neg (by rw [hr]; simp)]
  have hcs : h < 1 ∨ (1 ≤ h ∧ 1099511627776 < h) := by simp at hr; omega
  have CN := hide (fun w => smake_no h w hr)
  clear hr
  rcases hcs with h1 | ⟨h0, h1⟩
  all_goals
    go_enter Try.func8, Try.ntmps8
    go_wp2_with (go_at_call 19; refine Hid.out ?_)
    refine hide ?_
    refine (fixed4_any _).mono ?_
    rintro e w1 ⟨rfl, hb1⟩
    go_wp2_with (go_at_call 25; refine Hid.out ?_)
    refine hide ?_
    refine (unhide CN _).mono ?_
    rintro e w2 ⟨rfl, hb2⟩
    have B2 := hb1.trans (hb2.mono hb1.size)
    clear hb1 hb2
    go_wp2_with (go_at_call 26; refine Hid.out ?_)
    refine hide ?_
    refine (serror_any _ _ _ _).mono ?_
    rintro e w3 ⟨rfl, hb3⟩
    go_wp2_with fail
    go_ret
    exact ⟨rfl, (B2.alloc (by have := B2.size; omega) _).trans (hb3.mono (by simp; have := B2.size; omega))⟩

set_option maxRecDepth 1000000 in
set_option maxHeartbeats 4000000 in
theorem lmakes_good (h : Int) (w : World) (h0 : 1 ≤ h) (h1 : h ≤ 1099511627776) :
    Calls Try.prog 8 #[.int .i64 h] w fun e w' => e = .returned (.bool true) ∧ Below w.heap.size w w' := by
  have CM := hide (fun w => smake_yes h w h0 h1)
  have CK := hide (fun w (h2 : 1000 ≤ h) => rmake_any h w h2 h1)
  have hF0 := facZ_pos h h0 h1
  have hF1 := topShift_fits h h0 32
  have hs32 := topShift_le h 32
  have hr : sclB (facZ h (topShift h 32)) (topShift h 32 : Nat) = true := by simp [sclB]; omega
  have he : errZ (facZ h (topShift h 32)) (topShift h 32 : Nat) h = nanosZ (facZ h (topShift h 32)) (topShift h 32 : Nat) h - 1000000000 := by
    unfold errZ
    rw [if_pos ⟨hr, by simp; omega⟩]
  have hnb := nanosZ_bd (facZ h (topShift h 32)) (topShift h 32 : Nat) h
  generalize topShift h 32 = s at *
  generalize facZ h s = F at *
  rcases (show h < 4 ∨ (4 ≤ h ∧ h < 1000) ∨ 1000 ≤ h by omega) with h2 | ⟨h2, h3⟩ | h2
  all_goals
    go_enter Try.func8, Try.ntmps8
    go_wp2_with (go_at_call 19; refine Hid.out ?_)
    refine hide ?_
    refine (fixed4_any _).mono ?_
    rintro e w1 ⟨rfl, hb1⟩
    go_wp2_with (go_at_call 25; refine Hid.out ?_)
    refine hide ?_
    refine (unhide CM _).mono ?_
    rintro e w2 ⟨rfl, hb2⟩
    have B2 := hb1.trans (hb2.mono hb1.size)
    clear hb1 hb2
    obtain ⟨W0, hW0⟩ : ∃ W0, W0 = w2.alloc (.cells #[.int .i64 F, .int .i64 s] 32) := ⟨_, rfl⟩
    have B0 : Below w.heap.size w W0 := by rw [hW0]; exact B2.alloc (by have := B2.size; omega) _
    have r0 := held4 (W := W0) (v := .int .i64 F) (a := ⟨w2.heap.size, 0, none⟩) (by rw [hW0]; simp [go_sem])
    have r1 := held4 (W := W0) (v := .int .i64 s) (a := ⟨w2.heap.size, 1, none⟩) (by rw [hW0]; simp [go_sem])
    have S0 := Below.refl W0.heap.size W0
    have HW := hide hW0
    clear hW0
  · go_wp2_with (go_at_call 22; refine Hid.out ?_)
    refine hide ?_
    rw [← unhide HW]
    refine (lright_any _ _ _).mono ?_
    rintro e w4 ⟨rfl, hb4⟩; have hk4 := Below.trans (by assumption) (hb4.mono (Below.size (by assumption)))
    go_wp2_with fail
    go_ret
    exact ⟨rfl, B0.trans (Below.mono (B := W0.heap.size) (by assumption) B0.size)⟩
  · go_wp2_with (go_at_call 26; refine Hid.out ?_)
    refine hide ?_
    rw [← unhide HW]
    refine (serror_any _ _ _ _).mono ?_
    rintro e w4 ⟨rfl, hb4⟩; have hk4 := Below.trans (by assumption) (hb4.mono (Below.size (by assumption)))
    go_wp2_with (first | (go_at_call 26; refine (serror_any _ _ _ _).mono ?_; rintro e w4 ⟨rfl, hb4⟩; have hk4 := Below.trans (by assumption) (hb4.mono (Below.size (by assumption)))) | (go_at_call 22; refine (lright_any _ _ _).mono ?_; rintro e w4 ⟨rfl, hb4⟩; have hk4 := Below.trans (by assumption) (hb4.mono (Below.size (by assumption)))) | (go_at_call 24; refine (rnanos_any _ _ _ _ hF0 hF1 hs32).mono ?_; rintro e w4 ⟨rfl, hb4⟩; have hk4 := Below.trans (by assumption) (hb4.mono (Below.size (by assumption)))))
    go_ret
    exact ⟨rfl, B0.trans (Below.mono (B := W0.heap.size) (by assumption) B0.size)⟩
  · go_wp2_with (go_at_call 27; refine Hid.out ?_)
    refine hide ?_
    rw [← unhide HW]
    refine (unhide CK _ h2).mono ?_
    rintro e w4 ⟨rfl, hb4⟩; have hk4 := Below.trans (by assumption) (hb4.mono (Below.size (by assumption)))
    go_wp2_with (first | (go_at_call 26; refine (serror_any _ _ _ _).mono ?_; rintro e w4 ⟨rfl, hb4⟩; have hk4 := Below.trans (by assumption) (hb4.mono (Below.size (by assumption)))) | (go_at_call 22; refine (lright_any _ _ _).mono ?_; rintro e w4 ⟨rfl, hb4⟩; have hk4 := Below.trans (by assumption) (hb4.mono (Below.size (by assumption)))) | (go_at_call 24; refine (rnanos_any _ _ _ _ hF0 hF1 hs32).mono ?_; rintro e w4 ⟨rfl, hb4⟩; have hk4 := Below.trans (by assumption) (hb4.mono (Below.size (by assumption)))))
    go_ret
    exact ⟨rfl, B0.trans (Below.mono (B := W0.heap.size) (by assumption) B0.size)⟩
theorem lmakes_walk (h : Int) (w : World) :
    Calls Try.prog 8 #[.int .i64 h] w fun e w' => e = .returned (.bool true) ∧ Below w.heap.size w w' := by
  by_cases hr : 1 ≤ h ∧ h ≤ 1099511627776
  · exact lmakes_good h w hr.1 hr.2
  · exact lmakes_bad h w (by simp; omega)
end Go.Proofs.Ytbmfnpgopafbkaa
