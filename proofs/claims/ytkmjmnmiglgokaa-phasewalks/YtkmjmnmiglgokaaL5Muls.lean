import Derived.Test.YtkmjmnmiglgokaaPh5
import Derived.Deep.RegionHeld3
namespace Go.Proofs.Ytkmjmnmiglgokaa
open Go.RowKit Ph

def Sq (n m s : Int) : Prop := n * n + m * m = s
theorem norm_named (x y : Nat) (n m s : Int) (hx : Rep x n) (hy : Rep y m) (h1 : inB n = true) (h2 : inB m = true) (hs : Sq n m s) (w : World) :
    Calls Try.prog 18 #[.complex .f64 x y] w fun e w' => e = .returned (.int .i64 s) ∧ w' = w := by
  have := norm_any x y n m hx hy h1 h2 w
  rw [hs] at this
  exact this

theorem norm_mul (a b c d : Int) : (a * c - b * d) * (a * c - b * d) + (a * d + b * c) * (a * d + b * c) = (a * a + b * b) * (c * c + d * d) := by
  simp only [Int.mul_add, Int.add_mul, Int.mul_sub, Int.sub_mul]
  have e1 : a * c * (a * c) = a * a * (c * c) := by ac_rfl
  have e2 : b * d * (b * d) = b * b * (d * d) := by ac_rfl
  have e3 : a * d * (a * d) = a * a * (d * d) := by ac_rfl
  have e4 : b * c * (b * c) = b * b * (c * c) := by ac_rfl
  have e5 : a * c * (b * d) = a * b * c * d := by ac_rfl
  have e6 : b * d * (a * c) = a * b * c * d := by ac_rfl
  have e7 : a * d * (b * c) = a * b * c * d := by ac_rfl
  have e8 : b * c * (a * d) = a * b * c * d := by ac_rfl
  rw [e1, e2, e3, e4, e5, e6, e7, e8]
  omega

set_option maxHeartbeats 2000000 in
theorem lmuls_walk (a b c d : Int) (w : World) :
    Calls Try.prog 4 #[.int .i64 a, .int .i64 b, .int .i64 c, .int .i64 d] w fun e w' => e = .returned (.bool true) ∧ Below w.heap.size w w' := by
  have hw1 := whole_any a b
  have hw2 := whole_any c d
  cases d1 : (inB a && inB b)
  · rw [d1] at hw1
    simp only [Bool.false_eq_true, if_false] at hw1
    obtain ⟨v2, hv2⟩ : ∃ v : Value, (if (inB c && inB d) = true then Value.tuple #[.complex .f64 (fl c) (fl d), .bool true] else .tuple #[.complex .f64 0 0, .bool false]) = v := ⟨_, rfl⟩
    cases d2 : (inB c && inB d)
    all_goals
      rw [d2] at hw2
      simp only [Bool.false_eq_true, if_false, if_true] at hw2
      clear hv2
      go_enter Try.func4, Try.ntmps4
      go_wp2_with (first
        | (go_at_call 11; refine (fixed5 _).mono ?_; rintro e w1 ⟨rfl, hb1⟩)
        | (go_at_call 12; with_reducible refine (hw1 _).mono ?_; rintro e w' ⟨rfl, rfl⟩)
        | (go_at_call 12; with_reducible refine (hw2 _).mono ?_; rintro e w' ⟨rfl, rfl⟩))
      go_ret
      exact ⟨rfl, hb1⟩
  rw [d1] at hw1
  simp only [if_true] at hw1
  cases d2 : (inB c && inB d)
  · rw [d2] at hw2
    simp only [Bool.false_eq_true, if_false] at hw2
    go_enter Try.func4, Try.ntmps4
    go_wp2_with (first
      | (go_at_call 11; refine (fixed5 _).mono ?_; rintro e w1 ⟨rfl, hb1⟩)
      | (go_at_call 12; with_reducible refine (hw1 _).mono ?_; rintro e w' ⟨rfl, rfl⟩)
      | (go_at_call 12; with_reducible refine (hw2 _).mono ?_; rintro e w' ⟨rfl, rfl⟩))
    go_ret
    exact ⟨rfl, hb1⟩
  rw [d2] at hw2
  simp only [if_true] at hw2
  have h1 := (Bool.and_eq_true_iff.1 d1).1
  have h2 := (Bool.and_eq_true_iff.1 d1).2
  have h3 := (Bool.and_eq_true_iff.1 d2).1
  have h4 := (Bool.and_eq_true_iff.1 d2).2
  have R1 := fl_rep h1
  have R2 := fl_rep h2
  have R3 := fl_rep h3
  have R4 := fl_rep h4
  have hm := fun w => mul_any _ _ _ _ _ _ _ _ R1 R2 R3 R4 w
  have hmb : mulB a b c d = (inB (a * c - b * d) && inB (a * d + b * c)) := by unfold mulB; rw [d1, d2]; rfl
  rw [hmb] at hm
  clear hmb
  have hr := fun w => rright_any (a * c - b * d) (a * d + b * c) w
  have b1 := abs_mul_le a c (inB_abs h1) (inB_abs h3)
  have b2 := abs_mul_le b d (inB_abs h2) (inB_abs h4)
  have b3 := abs_mul_le a d (inB_abs h1) (inB_abs h4)
  have b4 := abs_mul_le b c (inB_abs h2) (inB_abs h3)
  have b5 := abs_mul_le a a (inB_abs h1) (inB_abs h1)
  have b6 := abs_mul_le b b (inB_abs h2) (inB_abs h2)
  have b7 := abs_mul_le c c (inB_abs h3) (inB_abs h3)
  have b8 := abs_mul_le d d (inB_abs h4) (inB_abs h4)
  have hid := norm_mul a b c d
  obtain ⟨p1, e1⟩ : ∃ z, a * c = z := ⟨_, rfl⟩
  obtain ⟨p2, e2⟩ : ∃ z, b * d = z := ⟨_, rfl⟩
  obtain ⟨p3, e3⟩ : ∃ z, a * d = z := ⟨_, rfl⟩
  obtain ⟨p4, e4⟩ : ∃ z, b * c = z := ⟨_, rfl⟩
  obtain ⟨sx, hx⟩ : ∃ z, a * a + b * b = z := ⟨_, rfl⟩
  obtain ⟨sy, hy⟩ : ∃ z, c * c + d * d = z := ⟨_, rfl⟩
  rw [e1, e2, e3, e4] at hm hr
  rw [e1, e2, e3, e4, hx, hy] at hid
  rw [e1] at b1
  rw [e2] at b2
  rw [e3] at b3
  rw [e4] at b4
  obtain ⟨U, hU⟩ : ∃ z, p1 - p2 = z := ⟨_, rfl⟩
  obtain ⟨V, hV⟩ : ∃ z, p3 + p4 = z := ⟨_, rfl⟩
  rw [hU, hV] at hm hr hid
  obtain ⟨X, hX⟩ : ∃ z, fl a = z := ⟨_, rfl⟩
  obtain ⟨Y, hY⟩ : ∃ z, fl b = z := ⟨_, rfl⟩
  obtain ⟨Z, hZ⟩ : ∃ z, fl c = z := ⟨_, rfl⟩
  obtain ⟨T, hT⟩ : ∃ z, fl d = z := ⟨_, rfl⟩
  rw [hX, hY] at hw1
  rw [hZ, hT] at hw2
  rw [hX, hY, hZ, hT] at hm
  rw [hX] at R1
  rw [hY] at R2
  rw [hZ] at R3
  rw [hT] at R4
  have S1 : Sq a b sx := hx
  have S2 : Sq c d sy := hy
  have v1 : IntKind.i64.wrap p1 = p1 := by rw [IntKind.wrap_i64]; omega
  have v2 : IntKind.i64.wrap p2 = p2 := by rw [IntKind.wrap_i64]; omega
  have v3 : IntKind.i64.wrap p3 = p3 := by rw [IntKind.wrap_i64]; omega
  have v4 : IntKind.i64.wrap p4 = p4 := by rw [IntKind.wrap_i64]; omega
  have v5 : IntKind.i64.wrap U = U := by rw [IntKind.wrap_i64]; omega
  have v6 : IntKind.i64.wrap V = V := by rw [IntKind.wrap_i64]; omega
  clear hx hy hX hY hZ hT d1 d2
  cases d3 : (inB U && inB V)
  · rw [d3] at hm hr
    simp only [Bool.false_eq_true, if_false] at hm
    have e0 : (FloatKind.f64.format.order 0 0 == some .eq) = true := by decide
    go_enter Try.func4, Try.ntmps4
    go_wp2_with (first
      | (go_at_call 11; refine (fixed5 _).mono ?_; rintro e w1 ⟨rfl, hb1⟩)
      | (go_at_call 12; with_reducible refine (hw1 _).mono ?_; rintro e w' ⟨rfl, rfl⟩)
      | (go_at_call 12; with_reducible refine (hw2 _).mono ?_; rintro e w' ⟨rfl, rfl⟩)
      | (go_at_call 20; refine (hm _).mono ?_; rintro e w' ⟨rfl, rfl⟩)
      | (go_at_call 13; refine (hr _).mono ?_; rintro e w2 ⟨rfl, hb2⟩))
    go_ret
    exact ⟨rfl, hb1.trans (((below1 _ _).trans (hb2.mono (below1 _ _).size)).mono hb1.size)⟩
  · rw [d3] at hm hr
    simp only [if_true] at hm
    have h5 := (Bool.and_eq_true_iff.1 d3).1
    have h6 := (Bool.and_eq_true_iff.1 d3).2
    have R5 := fl_rep h5
    have R6 := fl_rep h6
    have b9 := abs_mul_le U U (inB_abs h5) (inB_abs h5)
    have b10 := abs_mul_le V V (inB_abs h6) (inB_abs h6)
    obtain ⟨M, hM⟩ : ∃ z, sx * sy = z := ⟨_, rfl⟩
    rw [hM] at hid
    have S3 : Sq U V M := hid
    have bM : M.natAbs ≤ 2199023255552 := by omega
    have v7 : IntKind.i64.wrap M = M := by rw [IntKind.wrap_i64]; omega
    have v8 : (M + 9223372036854775808) % 18446744073709551616 - 9223372036854775808 = M := by omega
    obtain ⟨X', hX'⟩ : ∃ z, fl U = z := ⟨_, rfl⟩
    obtain ⟨Y', hY'⟩ : ∃ z, fl V = z := ⟨_, rfl⟩
    rw [hX', hY'] at hm
    rw [hX'] at R5
    rw [hY'] at R6
    clear hX' hY' d3 hid b5 b6 b7 b8 b9 b10
    go_enter Try.func4, Try.ntmps4
    go_wp2_with (first
      | (go_at_call 11; refine (fixed5 _).mono ?_; rintro e w1 ⟨rfl, hb1⟩)
      | (go_at_call 12; with_reducible refine (hw1 _).mono ?_; rintro e w' ⟨rfl, rfl⟩)
      | (go_at_call 12; with_reducible refine (hw2 _).mono ?_; rintro e w' ⟨rfl, rfl⟩)
      | (go_at_call 20; refine (hm _).mono ?_; rintro e w' ⟨rfl, rfl⟩)
      | (go_at_call 13; refine Hid.out ?_))
    refine hide ?_
    obtain ⟨W0, hW0⟩ : ∃ W0, W0 = w'.alloc (.cells #[.int .i64 U, .int .i64 V] 27) := ⟨_, rfl⟩
    have B0 : Below w.heap.size w W0 := by rw [hW0]; exact hb1.trans ((below1 _ _).mono hb1.size)
    have r0 := held4 (W := W0) (v := .int .i64 U) (a := ⟨w'.heap.size, 0, none⟩) (by rw [hW0]; simp [go_sem])
    have r1 := held4 (W := W0) (v := .int .i64 V) (a := ⟨w'.heap.size, 1, none⟩) (by rw [hW0]; simp [go_sem])
    rw [← hW0]
    clear hW0
    refine (hr _).mono ?_
    rintro e w3 ⟨rfl, S3'⟩
    go_wp2_with (first | (go_at_call 18; refine (norm_named _ _ _ _ _ (by assumption) (by assumption) (by assumption) (by assumption) (by assumption) _).mono ?_; rintro e w4 ⟨rfl, rfl⟩) | (go_at_call 15; refine (is_any _ _ _ _ (by assumption) (by assumption) (by assumption) (by assumption) _).mono ?_; rintro e w4 ⟨rfl, hb4⟩; have hk4 := Below.trans (by assumption) (hb4.mono (Below.size (by assumption)))))
    go_ret
    exact ⟨rfl, B0.trans (Below.mono (B := W0.heap.size) (by assumption) B0.size)⟩
end Go.Proofs.Ytkmjmnmiglgokaa
