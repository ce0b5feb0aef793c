import Derived.Test.YtkmjmnmiglgokaaPh5
import Derived.Deep.RegionHeld3
namespace Go.Proofs.Ytkmjmnmiglgokaa
open Go.RowKit Ph

set_option maxHeartbeats 2000000 in
theorem lwhole_walk (n m q : Int) (w : World) :
    Calls Try.prog 3 #[.int .i64 n, .int .i64 m, .int .i64 q] w fun e w' => e = .returned (.bool true) ∧ Below w.heap.size w w' := by
  have hw := whole_any n m
  have hr := rright_any n m
  cases d : (inB n && inB m)
  · rw [d] at hw hr
    simp only [Bool.false_eq_true, if_false] at hw
    have e0 : (FloatKind.f64.format.order 0 0 == some .eq) = true := by decide
    go_enter Try.func3, Try.ntmps3
    go_wp2_with (first
      | (go_at_call 11; refine (fixed5 _).mono ?_; rintro e w1 ⟨rfl, hb1⟩)
      | (go_at_call 12; refine (hw _).mono ?_; rintro e w' ⟨rfl, rfl⟩)
      | (go_at_call 13; refine (hr _).mono ?_; rintro e w2 ⟨rfl, hb2⟩))
    go_ret
    exact ⟨rfl, hb1.trans (((below1 _ _).trans (hb2.mono (below1 _ _).size)).mono hb1.size)⟩
  · rw [d] at hw hr
    simp only [if_true] at hw
    have h1 := (Bool.and_eq_true_iff.1 d).1
    have h2 := (Bool.and_eq_true_iff.1 d).2
    have R1 := fl_rep h1
    have R2 := fl_rep h2
    have hk : q % 4 = 0 ∨ q % 4 = 1 ∨ q % 4 = 2 ∨ q % 4 = 3 := by omega
    have hi := turn_in hk h1 h2
    have T1 := fl_rep hi.1
    have T2 := fl_rep hi.2
    have CT := fun w => turn_any _ _ _ _ q R1 R2 h1 h2 w
    have CRT := fun w => rturn_any n m (q % 4) hk h1 h2 w
    have CN := fun w => norm_any _ _ _ _ R1 R2 h1 h2 w
    have CQ := fun w => quarter_any _ _ _ _ R1 R2 h1 h2 w
    have b1 := abs_mul_le n n (inB_abs h1) (inB_abs h1)
    have b2 := abs_mul_le m m (inB_abs h2) (inB_abs h2)
    have i1 := hi.1
    have i2 := hi.2
    obtain ⟨P, hP⟩ : ∃ p, n * n = p := ⟨_, rfl⟩
    obtain ⟨R, hR⟩ : ∃ r, m * m = r := ⟨_, rfl⟩
    rw [hP, hR] at CN
    rw [hP] at b1
    rw [hR] at b2
    have v1 : IntKind.i64.wrap P = P := by rw [IntKind.wrap_i64]; omega
    have v2 : IntKind.i64.wrap R = R := by rw [IntKind.wrap_i64]; omega
    have v3 : IntKind.i64.wrap (P + R) = P + R := by rw [IntKind.wrap_i64]; omega
    have v4 : (P + 9223372036854775808) % 18446744073709551616 - 9223372036854775808 = P := by omega
    have v5 : (R + 9223372036854775808) % 18446744073709551616 - 9223372036854775808 = R := by omega
    have v6 : (P + R + 9223372036854775808) % 18446744073709551616 - 9223372036854775808 = P + R := by omega
    have h3 := and3 q
    obtain ⟨X, hX⟩ : ∃ z, fl n = z := ⟨_, rfl⟩
    obtain ⟨Y, hY⟩ : ∃ z, fl m = z := ⟨_, rfl⟩
    obtain ⟨t1, ht1⟩ : ∃ z, tx (q % 4) n m = z := ⟨_, rfl⟩
    obtain ⟨t2, ht2⟩ : ∃ z, ty (q % 4) n m = z := ⟨_, rfl⟩
    obtain ⟨Q, hQ⟩ : ∃ z, quZ n m = z := ⟨_, rfl⟩
    rw [ht1, ht2] at CT CRT
    rw [ht1] at T1 i1
    rw [ht2] at T2 i2
    rw [hQ] at CQ
    obtain ⟨X', hX'⟩ : ∃ z, fl t1 = z := ⟨_, rfl⟩
    obtain ⟨Y', hY'⟩ : ∃ z, fl t2 = z := ⟨_, rfl⟩
    rw [hX] at CT CN CQ hw R1
    rw [hY] at CT CN CQ hw R2
    rw [hX'] at CT T1
    rw [hY'] at CT T2
    obtain ⟨k, hk'⟩ : ∃ k, q % 4 = k := ⟨_, rfl⟩
    rw [hk'] at h3 CRT
    have HQ := hide hQ
    clear hi hX hY hX' hY' ht1 ht2 hk' hk hQ d
    cases hn : (n != 0) <;> cases hm : (m != 0)
    case false.false =>
      have e1 : n = 0 := by simpa using hn
      have e2 : m = 0 := by simpa using hm
      have e3 : Q = -1 := by rw [← unhide HQ, e1, e2]; decide
      rw [e3] at CQ
      clear HQ
      clear e1 e2 e3
      have CRQ := True.intro
      go_enter Try.func3, Try.ntmps3
      go_wp2_with (first
        | (go_at_call 11; refine (fixed5 _).mono ?_; rintro e w1 ⟨rfl, hb1⟩)
        | (go_at_call 12; refine (hw _).mono ?_; rintro e w' ⟨rfl, rfl⟩)
        | (go_at_call 13; refine Hid.out ?_))
      refine hide ?_
      obtain ⟨W0, hW0⟩ : ∃ W0, W0 = w'.alloc (.cells #[.int .i64 n, .int .i64 m] 27) := ⟨_, rfl⟩
      have B0 : Below w.heap.size w W0 := by rw [hW0]; exact hb1.trans ((below1 _ _).mono hb1.size)
      have r0 := held4 (W := W0) (v := .int .i64 n) (a := ⟨w'.heap.size, 0, none⟩) (by rw [hW0]; simp [go_sem])
      have r1 := held4 (W := W0) (v := .int .i64 m) (a := ⟨w'.heap.size, 1, none⟩) (by rw [hW0]; simp [go_sem])
      rw [← hW0]
      clear hW0
      refine (hr _).mono ?_
      rintro e w3 ⟨rfl, S3⟩
      go_wp2_with (first | (go_at_call 14; refine (CRQ _).mono ?_; rintro e w4 ⟨rfl, hb4⟩; have hk4 := Below.trans (by assumption) (hb4.mono (Below.size (by assumption)))))
      go_region_held3 (fun w' => Below W0.heap.size W0 w') (first | exact Below.drew (by assumption) | assumption) (first | (go_at_call 16; refine (CT _).mono ?_; rintro e w4 ⟨rfl, rfl⟩) | (go_at_call 18; refine (CN _).mono ?_; rintro e w4 ⟨rfl, rfl⟩) | (go_at_call 19; refine (CQ _).mono ?_; rintro e w4 ⟨rfl, rfl⟩) | (go_at_call 17; refine (CRT _).mono ?_; rintro e w4 ⟨rfl, hb4⟩; have hk4 := Below.trans (by assumption) (hb4.mono (Below.size (by assumption)))) | (go_at_call 14; refine (CRQ _).mono ?_; rintro e w4 ⟨rfl, hb4⟩; have hk4 := Below.trans (by assumption) (hb4.mono (Below.size (by assumption)))) | (go_at_call 15; refine (is_any _ _ _ _ (by assumption) (by assumption) (by assumption) (by assumption) _).mono ?_; rintro e w4 ⟨rfl, hb4⟩; have hk4 := Below.trans (by assumption) (hb4.mono (Below.size (by assumption)))))
      go_wp2
      go_ret
      exact ⟨rfl, B0.trans (Below.mono (B := W0.heap.size) (by assumption) B0.size)⟩
    all_goals
      have hz' : n ≠ 0 ∨ m ≠ 0 := by simp at hn hm; omega
      have CRQ := fun w => rquarter_any n m h1 h2 hz' w
      rw [unhide HQ] at CRQ
      clear hz'
      go_enter Try.func3, Try.ntmps3
      go_wp2_with (first
        | (go_at_call 11; refine (fixed5 _).mono ?_; rintro e w1 ⟨rfl, hb1⟩)
        | (go_at_call 12; refine (hw _).mono ?_; rintro e w' ⟨rfl, rfl⟩)
        | (go_at_call 13; refine Hid.out ?_))
      refine hide ?_
      obtain ⟨W0, hW0⟩ : ∃ W0, W0 = w'.alloc (.cells #[.int .i64 n, .int .i64 m] 27) := ⟨_, rfl⟩
      have B0 : Below w.heap.size w W0 := by rw [hW0]; exact hb1.trans ((below1 _ _).mono hb1.size)
      have r0 := held4 (W := W0) (v := .int .i64 n) (a := ⟨w'.heap.size, 0, none⟩) (by rw [hW0]; simp [go_sem])
      have r1 := held4 (W := W0) (v := .int .i64 m) (a := ⟨w'.heap.size, 1, none⟩) (by rw [hW0]; simp [go_sem])
      rw [← hW0]
      clear hW0
      refine (hr _).mono ?_
      rintro e w3 ⟨rfl, S3⟩
      go_wp2_with (first | (go_at_call 14; refine (CRQ _).mono ?_; rintro e w4 ⟨rfl, hb4⟩; have hk4 := Below.trans (by assumption) (hb4.mono (Below.size (by assumption)))))
      go_region_held3 (fun w' => Below W0.heap.size W0 w') (first | exact Below.drew (by assumption) | assumption) (first | (go_at_call 16; refine (CT _).mono ?_; rintro e w4 ⟨rfl, rfl⟩) | (go_at_call 18; refine (CN _).mono ?_; rintro e w4 ⟨rfl, rfl⟩) | (go_at_call 19; refine (CQ _).mono ?_; rintro e w4 ⟨rfl, rfl⟩) | (go_at_call 17; refine (CRT _).mono ?_; rintro e w4 ⟨rfl, hb4⟩; have hk4 := Below.trans (by assumption) (hb4.mono (Below.size (by assumption)))) | (go_at_call 14; refine (CRQ _).mono ?_; rintro e w4 ⟨rfl, hb4⟩; have hk4 := Below.trans (by assumption) (hb4.mono (Below.size (by assumption)))) | (go_at_call 15; refine (is_any _ _ _ _ (by assumption) (by assumption) (by assumption) (by assumption) _).mono ?_; rintro e w4 ⟨rfl, hb4⟩; have hk4 := Below.trans (by assumption) (hb4.mono (Below.size (by assumption)))))
      go_wp2
      go_ret
      exact ⟨rfl, B0.trans (Below.mono (B := W0.heap.size) (by assumption) B0.size)⟩
end Go.Proofs.Ytkmjmnmiglgokaa
