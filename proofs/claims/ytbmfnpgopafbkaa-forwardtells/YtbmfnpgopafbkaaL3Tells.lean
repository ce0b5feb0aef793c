import Derived.Test.YtbmfnpgopafbkaaL3Later
namespace Go.Proofs.Ytbmfnpgopafbkaa
open Go.RowKit Kt

set_option maxRecDepth 100000 in
set_option maxHeartbeats 4000000 in
theorem ltells_walk (f p n : Int) (w : World) :
    Calls Try.prog 3 #[.int .i64 f, .int .i64 p, .int .i64 n] w fun e w' => e = .returned (.bool true) ∧ Below w.heap.size w w' := by
  have hcs := cnt_cases (clampZ f) (clampZ p) (clampZ n) (clampZ_bd f).2
  have bF := clampZ_bd f
  have bP := clampZ_bd p
  have bN := clampZ_bd n
  have bC := cntZ_bd f p n
  have hp1 : phaseB f p n = if cntZ f p n = 0 then false else true := rfl
  have hp2 : phaseZ f p n = if cntZ f p n = 0 then 0 else clampZ n - nthZ f p (cntZ f p n - 1) := rfl
  rw [show cntC (clampZ f) (clampZ p) (clampZ n) = cntZ f p n from rfl, show nthC (clampZ f) (clampZ p) (cntZ f p n) = nthZ f p (cntZ f p n) from rfl, show nthC (clampZ f) (clampZ p) (cntZ f p n - 1) = nthZ f p (cntZ f p n - 1) from rfl, show nthC (clampZ f) (clampZ p) 0 = nthZ f p 0 from rfl] at hcs
  obtain ⟨C, hC⟩ : ∃ C, cntZ f p n = C := ⟨_, rfl⟩
  obtain ⟨F, hF⟩ : ∃ F, clampZ f = F := ⟨_, rfl⟩
  obtain ⟨P, hP⟩ : ∃ P, clampZ p = P := ⟨_, rfl⟩
  obtain ⟨M, hM⟩ : ∃ M, clampZ n = M := ⟨_, rfl⟩
  rw [hC] at hcs bC hp1 hp2
  rw [hF] at hcs bF
  rw [hP] at hcs bP
  rw [hM] at hcs bN hp2
  go_enter Try.func3, Try.ntmps3
  go_wp2_with (first | (go_at_call 10; refine (fixed3_any _).mono ?_; rintro e w' ⟨rfl, rfl⟩) | (go_at_call 11; refine Hid.out ?_))
  refine hide ?_
  refine (few_any _ _ _ _).mono ?_
  rintro e w1 ⟨⟨b, rfl⟩, hb⟩
  cases b
  · go_wp2_with fail
    go_ret
    exact ⟨rfl, hb⟩
  rcases hcs with ⟨c0, -, -⟩ | ⟨c0, c1, c2, c3, -, c5⟩
  · subst c0
    rw [if_pos rfl] at hp1 hp2
    go_wp2_with (first | (go_at_call 16; refine (rclamp_any _ _).mono ?_; rintro e w' ⟨rfl, rfl⟩) | (go_at_call 12; refine (rcnt_any _ _ _ _).mono ?_; rintro e w' ⟨rfl, rfl⟩) | (go_at_call 13; refine (next_any _ _ _ _).mono ?_; rintro e w' ⟨rfl, rfl⟩) | (go_at_call 14; refine (count_any _ _ _ _).mono ?_; rintro e w' ⟨rfl, rfl⟩) | (go_at_call 15; refine (phase_any _ _ _ _).mono ?_; rintro e w' ⟨rfl, rfl⟩))
    go_ret
    exact ⟨rfl, hb⟩
  · rw [if_neg (by omega)] at hp1 hp2
    have hz : (C == 0) = false := by simp; omega
    rw [c1] at hp2
    go_wp2_with (first | (go_at_call 16; refine (rclamp_any _ _).mono ?_; rintro e w' ⟨rfl, rfl⟩) | (go_at_call 12; refine (rcnt_any _ _ _ _).mono ?_; rintro e w' ⟨rfl, rfl⟩) | (go_at_call 13; refine (next_any _ _ _ _).mono ?_; rintro e w' ⟨rfl, rfl⟩) | (go_at_call 14; refine (count_any _ _ _ _).mono ?_; rintro e w' ⟨rfl, rfl⟩) | (go_at_call 15; refine (phase_any _ _ _ _).mono ?_; rintro e w' ⟨rfl, rfl⟩))
    go_loop [13, 70] (fun t13 t70 => ∃ (k : Nat) (x : Int), (k : Int) ≤ C - 1 ∧ t70 = .int .i64 k ∧ t13 = .int .i64 x ∧ Hid (x = F + k * P) ∧ F ≤ x ∧ x ≤ 4611686018427387903) (fun _ t70 => (C - intOf t70).toNat)
    case atStart => exact ⟨0, F, by omega, rfl, rfl, hide (by simp), by omega, by omega⟩
    case round =>
      obtain ⟨k, x, hk, rfl, rfl, hx, x0, x1⟩ := hrel
      by_cases hlt : (k : Int) < C - 1
      · have hP0 : 0 < P := by
          by_cases h : P ≤ 0
          · have := c5 h; omega
          · omega
        have h1 := Int.mul_le_mul_of_nonneg_right (a := (k : Int) + 1) (b := C - 1) (c := P) (by omega) (by omega)
        have h2 : ((k : Int) + 1) * P = k * P + P := by rw [Int.add_mul]; omega
        have h3 := unhide hx
        have h4 : x + P ≤ 4611686018427387903 := by omega
        have h5 := hide (show ((k + 1 : Nat) : Int) * P = k * P + P by rw [Int.natCast_add]; exact h2)
        clear h1 h2 h3 c1 c2 c3
        go_wp2_with (first | (go_at_call 16; refine (rclamp_any _ _).mono ?_; rintro e w' ⟨rfl, rfl⟩) | (go_at_call 12; refine (rcnt_any _ _ _ _).mono ?_; rintro e w' ⟨rfl, rfl⟩) | (go_at_call 13; refine (next_any _ _ _ _).mono ?_; rintro e w' ⟨rfl, rfl⟩) | (go_at_call 14; refine (count_any _ _ _ _).mono ?_; rintro e w' ⟨rfl, rfl⟩) | (go_at_call 15; refine (phase_any _ _ _ _).mono ?_; rintro e w' ⟨rfl, rfl⟩))
        go_round
        case rel => exact ⟨k + 1, x + P, by omega, by go_num, rfl, hide (by have := unhide h5; have := unhide hx; omega), by omega, by omega⟩
        case measure => simp [intOf]; omega
      · have e1 : x = F + (C - 1) * P := by rw [unhide hx]; congr 2; omega
        rw [← e1]
        go_wp2_with (first | (go_at_call 16; refine (rclamp_any _ _).mono ?_; rintro e w' ⟨rfl, rfl⟩) | (go_at_call 12; refine (rcnt_any _ _ _ _).mono ?_; rintro e w' ⟨rfl, rfl⟩) | (go_at_call 13; refine (next_any _ _ _ _).mono ?_; rintro e w' ⟨rfl, rfl⟩) | (go_at_call 14; refine (count_any _ _ _ _).mono ?_; rintro e w' ⟨rfl, rfl⟩) | (go_at_call 15; refine (phase_any _ _ _ _).mono ?_; rintro e w' ⟨rfl, rfl⟩))
        go_ret
        exact ⟨rfl, hb⟩
end Go.Proofs.Ytbmfnpgopafbkaa
