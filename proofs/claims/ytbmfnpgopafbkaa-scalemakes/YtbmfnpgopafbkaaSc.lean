import Derived.Test.YtbmfnpgopafbkaaKtMul
import Derived.Test.YtbmfnpgopafbkaaScMath
import Derived.Deep.QuietTactic
import Derived.BigQuiet
namespace Go.Proofs.Ytbmfnpgopafbkaa
open Go.RowKit Kt

def sclB (F S : Int) : Bool := decide (1 ≤ F) && decide (F ≤ 4294967295) && decide (0 ≤ S) && decide (S ≤ 32)
def capZ (n : Int) : Int := min (max n 0) 4611686018427387903

set_option maxHeartbeats 400000 in
theorem scount_any (n : Int) (w : World) :
    Calls Try.prog 33 #[.int .i64 n] w fun e w' => e = .returned (.int .u64 (capZ n)) ∧ w' = w := by
  go_enter Try.func33, Try.ntmps33
  go_wp2
  all_goals
    go_ret
    refine ⟨ret_int ?_, rfl⟩
    unfold capZ
    repeat' split at *
    all_goals omega

set_option maxHeartbeats 400000 in
theorem srated_any (n : Int) (w : World) :
    Calls Try.prog 37 #[.int .i64 n] w fun e w' => e = .returned (.bool (decide (1 ≤ n) && decide (n ≤ 1099511627776))) ∧ w' = w := by
  cases d1 : decide (1 ≤ n) <;> cases d2 : decide (n ≤ 1099511627776)
  all_goals
    go_enter Try.func37, Try.ntmps37
    go_wp2
    go_ret
    exact ⟨rfl, rfl⟩

set_option maxHeartbeats 400000 in
theorem scright_any (F S : Int) (w : World) :
    Calls Try.prog 21 #[.agg #[.int .i64 F, .int .i64 S]] w fun e w' => e = .returned (.bool (sclB F S)) ∧ Below w.heap.size w w' := by
  unfold sclB
  have hb0 : Below w.heap.size w (w.alloc (.cells #[.int .i64 F, .int .i64 S] 32)) := (Below.refl _ _).alloc (Nat.le_refl _) _
  cases d1 : decide (1 ≤ F) <;> cases d2 : decide (F ≤ 4294967295) <;> cases d3 : decide (0 ≤ S) <;> cases d4 : decide (S ≤ 32)
  all_goals
    go_enter Try.func21, Try.ntmps21
    go_wp2
    go_ret
    exact ⟨rfl, hb0⟩

theorem mul64_z (x y m : Int) (hx : 0 ≤ x) (hx' : x < 18446744073709551616) (hy : 0 ≤ y) (hy' : y < 18446744073709551616) (hm : x * y = m) (w : World) :
    Calls Try.prog 32 #[.int .u64 x, .int .u64 y] w fun e w' => e = .returned (.tuple #[.int .u64 (m / 18446744073709551616), .int .u64 (m % 18446744073709551616)]) ∧ w' = w := by
  obtain ⟨a, rfl⟩ := Int.eq_ofNat_of_zero_le hx
  obtain ⟨b, rfl⟩ := Int.eq_ofNat_of_zero_le hy
  have h := mul64_any a b (by omega) (by omega) w
  rw [← hm]
  have e : ((a : Int) * (b : Int)) = ((a * b : Nat) : Int) := by simp
  rw [e]
  exact h

def nanosZ (F S c : Int) : Int := if sclB F S = true then min (capZ c * F / 2 ^ S.toNat) 4611686018427387903 else 0
theorem sclB_true {F S : Int} (h : sclB F S = true) : 1 ≤ F ∧ F ≤ 4294967295 ∧ 0 ≤ S ∧ S ≤ 32 := by
  simp [sclB] at h; omega
theorem capZ_bd (c : Int) : 0 ≤ capZ c ∧ capZ c ≤ 4611686018427387903 := by unfold capZ; omega

set_option maxHeartbeats 1000000 in
theorem snanos_any (F S c : Int) (w : World) :
    Calls Try.prog 20 #[.agg #[.int .i64 F, .int .i64 S], .int .i64 c] w fun e w' => e = .returned (.int .i64 (nanosZ F S c)) ∧ Below w.heap.size w w' := by
  have hb0 : Below w.heap.size w (w.alloc (.cells #[.int .i64 F, .int .i64 S] 32)) := (Below.refl _ _).alloc (Nat.le_refl _) _
  cases hr : sclB F S
  · have hn : nanosZ F S c = 0 := by unfold nanosZ; rw [hr]; rfl
    rw [hn]
    go_enter Try.func20, Try.ntmps20
    go_wp2_with (go_at_call 21; refine Hid.out ?_)
    refine hide ?_
    refine (scright_any _ _ _).mono ?_
    rintro e w1 ⟨rfl, hb⟩
    go_wp2_with fail
    go_ret
    exact ⟨rfl, hb0.trans (hb.mono (by simp))⟩
  obtain ⟨hF0, hF1, hS0, hS1⟩ := sclB_true hr
  have hu : IntKind.u64.wrap F = F := by simp only [IntKind.wrap_u64]; omega
  have hc := capZ_bd c
  obtain ⟨m, hm⟩ : ∃ m, capZ c * F = m := ⟨_, rfl⟩
  have hn : nanosZ F S c = min (m / 2 ^ S.toNat) 4611686018427387903 := by unfold nanosZ; rw [hr, if_pos rfl, hm]
  have m0 : 0 ≤ m := by rw [← hm]; exact Int.mul_nonneg hc.1 (by omega)
  have cM := hide (fun w => mul64_z (capZ c) F m hc.1 (by omega) (by omega) (by omega) hm w)
  have e1 := shift_join m S m0 hS0 (by omega)
  have e2 := high_shift m S
  have x0 : 0 ≤ m / 2 ^ S.toNat := Int.ediv_nonneg m0 (Int.le_of_lt (pow_toNat_pos S))
  rw [hn]
  clear hn hm
  obtain ⟨x, hx⟩ : ∃ x, m / 2 ^ S.toNat = x := ⟨_, rfl⟩
  rw [hx] at e1 e2 x0 ⊢
  clear hx
  have R0 : (w.alloc (.cells #[.int .i64 F, .int .i64 S] 32)).cell? ⟨w.heap.size, 0, none⟩ = some (.int .i64 F) := by simp [go_sem]
  have R1 : (w.alloc (.cells #[.int .i64 F, .int .i64 S] 32)).cell? ⟨w.heap.size, 1, none⟩ = some (.int .i64 S) := by simp [go_sem]
  by_cases hx : x ≤ 4611686018427387903
  · have e3 : x / 18446744073709551616 = 0 := by omega
    have e4 : x % 18446744073709551616 = x := by omega
    rw [e3] at e2
    rw [e4] at e1
    clear e3 e4
    go_enter Try.func20, Try.ntmps20
    go_wp2_with (go_at_call 21; refine Hid.out ?_)
    refine hide ?_
    refine (scright_any _ _ _).mono ?_
    rintro e w1 ⟨rfl, hb⟩
    have r0 := cell_later hb R0
    have r1 := cell_later hb R1
    go_wp2_with fail
    go_quiet (first | (go_at_call 33; refine Calls.quiet_of_same (scount_any _ _)) | (go_at_call 32; refine Calls.quiet_of_same (unhide cM _)))
    go_wp2
    go_quiet (fail)
    go_wp2
    go_ret
    exact ⟨ret_int (by omega), below_drewN (hb0.trans (hb.mono (by simp))) _⟩
  · have e5 : 0 < x / 18446744073709551616 ∨ (x / 18446744073709551616 = 0 ∧ 4611686018427387903 < x % 18446744073709551616) := by omega
    rcases e5 with e5 | ⟨e5, e6⟩
    · go_enter Try.func20, Try.ntmps20
      go_wp2_with (go_at_call 21; refine Hid.out ?_)
      refine hide ?_
      refine (scright_any _ _ _).mono ?_
      rintro e w1 ⟨rfl, hb⟩
      have r0 := cell_later hb R0
      have r1 := cell_later hb R1
      go_wp2_with fail
      go_quiet (first | (go_at_call 33; refine Calls.quiet_of_same (scount_any _ _)) | (go_at_call 32; refine Calls.quiet_of_same (unhide cM _)))
      go_wp2
      go_quiet (fail)
      go_wp2
      go_ret
      exact ⟨ret_int (by omega), below_drewN (hb0.trans (hb.mono (by simp))) _⟩
    · rw [e5] at e2
      go_enter Try.func20, Try.ntmps20
      go_wp2_with (go_at_call 21; refine Hid.out ?_)
      refine hide ?_
      refine (scright_any _ _ _).mono ?_
      rintro e w1 ⟨rfl, hb⟩
      have r0 := cell_later hb R0
      have r1 := cell_later hb R1
      go_wp2_with fail
      go_quiet (first | (go_at_call 33; refine Calls.quiet_of_same (scount_any _ _)) | (go_at_call 32; refine Calls.quiet_of_same (unhide cM _)))
      go_wp2
      go_quiet (fail)
      go_wp2
      go_ret
      exact ⟨ret_int (by omega), below_drewN (hb0.trans (hb.mono (by simp))) _⟩
end Go.Proofs.Ytbmfnpgopafbkaa
