import Derived.Test.YtjngnmpjkiafpaaPh4
namespace Go.Proofs.Ytjngnmpjkiafpaa
open Go.RowKit Ph

theorem inside_half (w : World) :
    Calls Try.prog 18 #[.float .f64 4602678819172646912] w fun e w' => e = .returned (.bool false) ∧ w' = w := by
  have c1 : (FloatKind.f64.format.order 4602678819172646912 13920626448202203136 == some .gt || FloatKind.f64.format.order 4602678819172646912 13920626448202203136 == some .eq) = true := by decide
  have c2 : (FloatKind.f64.format.order 4602678819172646912 4697254411347427328 == some .lt || FloatKind.f64.format.order 4602678819172646912 4697254411347427328 == some .eq) = true := by decide
  have c3 : (FloatKind.f64.format.order 4602678819172646912 (floatOfInt .f64 0) == some .eq) = false := by decide
  have hc : ∀ w, (convert 41 3 (.float .f64 4602678819172646912)).run Try.prog w = .ok (.int .i64 0) w := fun w => run_convert_float_int w 41 3 .f64 .i64 4602678819172646912 0 (by rw [Try.underlying41]; rfl) Try.underlying3 (by decide)
  go_enter Try.func18, Try.ntmps18
  go_wp2
  go_ret
  exact ⟨rfl, rfl⟩

theorem right_half (w : World) :
    Calls Try.prog 15 #[.complex .f64 4602678819172646912 0] w fun e w' => e = .returned (.bool false) ∧ w' = w := by
  go_enter Try.func15, Try.ntmps15
  go_wp2_with (go_at_call 18; refine (inside_half _).mono ?_; rintro e w' ⟨rfl, rfl⟩)
  go_ret
  exact ⟨rfl, rfl⟩
theorem parts_half (w : World) :
    Calls Try.prog 16 #[.complex .f64 4602678819172646912 0] w fun e w' => e = .returned (.tuple #[.int .i64 0, .int .i64 0, .bool false]) ∧ w' = w := by
  go_enter Try.func16, Try.ntmps16
  go_wp2_with (go_at_call 15; refine (right_half _).mono ?_; rintro e w' ⟨rfl, rfl⟩)
  go_ret3
  exact ⟨rfl, rfl⟩
theorem norm_half (w : World) :
    Calls Try.prog 12 #[.complex .f64 4602678819172646912 0] w fun e w' => e = .returned (.int .i64 (-1)) ∧ w' = w := by
  go_enter Try.func12, Try.ntmps12
  go_wp2_with (go_at_call 16; refine (parts_half _).mono ?_; rintro e w' ⟨rfl, rfl⟩)
  go_ret
  exact ⟨rfl, rfl⟩

theorem is_any (x y : Nat) (n m : Int) (hx : Rep x n) (hy : Rep y m) (h1 : inB n = true) (h2 : inB m = true) (w : World) :
    Calls Try.prog 9 #[.complex .f64 x y, .agg #[.int .i64 n, .int .i64 m]] w fun e w' => e = .returned (.bool true) ∧ Below w.heap.size w w' := by
  have hb0 := below1 w (.cells #[.int .i64 n, .int .i64 m] 32)
  have d : (inB n && inB m) = true := by rw [h1, h2]; rfl
  go_enter Try.func9, Try.ntmps9
  go_wp2_with (first
    | (go_at_call 16; refine (parts_any _ _ _ _ hx hy _).mono ?_; rintro e w' ⟨rfl, rfl⟩; simp only [d])
    | (go_at_call 15; refine (right_any _ _ _ _ hx hy _).mono ?_; rintro e w' ⟨rfl, rfl⟩))
  go_ret
  exact ⟨rfl, hb0⟩

theorem eq_rep {x y : Nat} {n : Int} (hx : Rep x n) (hy : Rep y n) : (FloatKind.f64.format.order x y == some .eq) = true := by
  rw [hx.order hy, ord_eq]; simp

theorem fix_walk (w : World) : Calls Try.prog 10 #[.slice (some ⟨w.heap.size, 0, none⟩) 3 3] (w.alloc (.cells #[.int .u8 0, .int .u8 1, .int .u8 0] 5)) fun e w' =>
    ∃ X Y C D, e = .returned (.tuple #[.complex .f64 X Y, .complex .f64 C D]) ∧ (FloatKind.f64.format.order X 4607182418800017408 == some .eq) = true ∧ (FloatKind.f64.format.order Y 4607182418800017408 == some .eq) = true ∧ (FloatKind.f64.format.order C 0 == some .eq) = true ∧ (FloatKind.f64.format.order D 4607182418800017408 == some .eq) = true ∧ w' = w.alloc (.cells #[.int .u8 0, .int .u8 1, .int .u8 0] 5) := by
  have z0 : Rep 0 0 := ⟨false, 0, by decide, by decide, rfl⟩
  have z1 : Rep 4607182418800017408 1 := ⟨false, 1, by decide, by decide, rfl⟩
  refine (walk_any (some ⟨w.heap.size, 0, none⟩) 3 3 [0, 1, 0] _ (by omega) ?_).mono ?_
  · intro i hi
    have hB := Blk.new w 5 #[.int .u8 0, .int .u8 1, .int .u8 0]
    rcases (show i = 0 ∨ i = 1 ∨ i = 2 by omega) with rfl | rfl | rfl
    · exact ⟨_, rfl, hB.cell 0, by decide⟩
    · exact ⟨_, rfl, (by have := hB.cell 1; simp [Addr.add]), by decide⟩
    · exact ⟨_, rfl, (by have := hB.cell 2; simp [Addr.add]), by decide⟩
  · rintro e w' ⟨u, v, rfl, ⟨X, Y, rfl, hX, hY⟩, ⟨C, D, rfl, hC, hD⟩, rfl⟩
    have e : wk [0, 1, 0] (min 3 4096) = (1, 1, 0, 1) := by decide
    rw [e] at hX hY hC hD
    exact ⟨X, Y, C, D, rfl, eq_rep hX z1, eq_rep hY z1, eq_rep hC z0, eq_rep hD z1, rfl⟩

theorem fix_mul (w : World) : Calls Try.prog 11 #[.complex .f64 4607182418800017408 4611686018427387904, .complex .f64 4613937818241073152 13830554455654793216] w fun e w' => e = .returned (.tuple #[.complex .f64 4617315517961601024 4617315517961601024, .bool true]) ∧ w' = w := by
  have z1 : Rep 4607182418800017408 1 := ⟨false, 1, by decide, by decide, rfl⟩
  have z2 : Rep 4611686018427387904 2 := ⟨false, 2, by decide, by decide, rfl⟩
  have z3 : Rep 4613937818241073152 3 := ⟨false, 3, by decide, by decide, rfl⟩
  have z4 : Rep 13830554455654793216 (-1) := ⟨true, 1, by decide, by decide, rfl⟩
  have := mul_any _ _ _ _ _ _ _ _ z1 z2 z3 z4 w
  rw [if_pos (by decide), show fl (1 * 3 - 2 * -1) = 4617315517961601024 from by decide, show fl (1 * -1 + 2 * 3) = 4617315517961601024 from by decide] at this
  exact this
theorem fix_whole (w : World) : Calls Try.prog 5 #[.int .i64 1048577, .int .i64 0] w fun e w' => e = .returned (.tuple #[.complex .f64 0 0, .bool false]) ∧ w' = w := by
  have := whole_any 1048577 0 w
  rw [if_neg (by decide)] at this
  exact this
theorem fix_norm (w : World) : Calls Try.prog 12 #[.complex .f64 4613937818241073152 4616189618054758400] w fun e w' => e = .returned (.int .i64 25) ∧ w' = w := by
  have z3 : Rep 4613937818241073152 3 := ⟨false, 3, by decide, by decide, rfl⟩
  have z4 : Rep 4616189618054758400 4 := ⟨false, 4, by decide, by decide, rfl⟩
  exact norm_any _ _ _ _ z3 z4 (by decide) (by decide) w
theorem fix_turn (w : World) : Calls Try.prog 6 #[.complex .f64 4611686018427387904 4607182418800017408, .int .i64 (-1)] w fun e w' => e = .returned (.complex .f64 4607182418800017408 13835058055282163712) ∧ w' = w := by
  have z2 : Rep 4611686018427387904 2 := ⟨false, 2, by decide, by decide, rfl⟩
  have z1 : Rep 4607182418800017408 1 := ⟨false, 1, by decide, by decide, rfl⟩
  have := turn_any _ _ _ _ (-1) z2 z1 (by decide) (by decide) w
  rw [show fl (tx (-1 % 4) 2 1) = 4607182418800017408 from by decide, show fl (ty (-1 % 4) 2 1) = 13835058055282163712 from by decide] at this
  exact this
theorem fix_quarter (w : World) : Calls Try.prog 13 #[.complex .f64 0 4613937818241073152] w fun e w' => e = .returned (.int .i64 1) ∧ w' = w := by
  have z0 : Rep 0 0 := ⟨false, 0, by decide, by decide, rfl⟩
  have z3 : Rep 4613937818241073152 3 := ⟨false, 3, by decide, by decide, rfl⟩
  exact quarter_any _ _ _ _ z0 z3 (by decide) (by decide) w
theorem fix_quarter0 (w : World) : Calls Try.prog 13 #[.complex .f64 0 0] w fun e w' => e = .returned (.int .i64 (-1)) ∧ w' = w := by
  have z0 : Rep 0 0 := ⟨false, 0, by decide, by decide, rfl⟩
  exact quarter_any _ _ _ _ z0 z0 (by decide) (by decide) w

set_option maxHeartbeats 1000000 in
theorem fixed5 (w : World) :
    Calls Try.prog 4 #[] w fun e w' => e = .returned (.bool true) ∧ Below w.heap.size w w' := by
  have hb0 := below1 w (.cells #[.int .u8 0, .int .u8 1, .int .u8 0] 5)
  have e1 : (FloatKind.f64.format.order 4607182418800017408 4607182418800017408 == some .eq) = true := by decide
  have e2 : (FloatKind.f64.format.order 13835058055282163712 13835058055282163712 == some .eq) = true := by decide
  have e5 : (FloatKind.f64.format.order 4617315517961601024 4617315517961601024 == some .eq) = true := by decide
  go_enter Try.func4, Try.ntmps4
  go_wp2_with (first
    | (go_at_call 10; refine (fix_walk _).mono ?_; rintro e w' ⟨X, Y, C, D, rfl, hX, hY, hC, hD, rfl⟩)
    | (go_at_call 11; refine (fix_mul _).mono ?_; rintro e w' ⟨rfl, rfl⟩)
    | (go_at_call 5; refine (fix_whole _).mono ?_; rintro e w' ⟨rfl, rfl⟩)
    | (go_at_call 12; with_reducible refine (fix_norm _).mono ?_; rintro e w' ⟨rfl, rfl⟩)
    | (go_at_call 12; with_reducible refine (norm_half _).mono ?_; rintro e w' ⟨rfl, rfl⟩)
    | (go_at_call 6; refine (fix_turn _).mono ?_; rintro e w' ⟨rfl, rfl⟩)
    | (go_at_call 13; with_reducible refine (fix_quarter _).mono ?_; rintro e w' ⟨rfl, rfl⟩)
    | (go_at_call 13; with_reducible refine (fix_quarter0 _).mono ?_; rintro e w' ⟨rfl, rfl⟩))
  go_ret
  exact ⟨rfl, hb0⟩
theorem held4 {W : World} {a : Addr} {v : Value} (h : W.cell? a = some v) : ∀ w', Below W.heap.size W w' → w'.cell? a = some v := fun w' hb => by
  rw [hb.cell (World.block_lt_of_cell? W a h)]; exact h

end Go.Proofs.Ytjngnmpjkiafpaa
