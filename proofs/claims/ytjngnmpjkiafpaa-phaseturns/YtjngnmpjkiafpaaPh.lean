import Derived.Test.YtjngnmpjkiafpaaPhMath
import Derived.Test.YtjngnmpjkiafpaaRows
import Derived.WalkKit
import Derived.WalkLawsBesides
import Derived.Deep.QuietTactic
import Derived.BigQuiet
namespace Go.Proofs.Ytjngnmpjkiafpaa
open Go.RowKit Ph

theorem cmps (x : Nat) (n : Int) (hx : Rep x n) :
    (FloatKind.f64.format.order x 13920626448202203136 == some .gt || FloatKind.f64.format.order x 13920626448202203136 == some .eq) = decide (-1048576 ≤ n) ∧
    (FloatKind.f64.format.order x 4697254411347427328 == some .lt || FloatKind.f64.format.order x 4697254411347427328 == some .eq) = decide (n ≤ 1048576) := by
  have h1 : Rep 13920626448202203136 (-1048576) := ⟨true, 1048576, by decide, by decide, rfl⟩
  have h2 : Rep 4697254411347427328 1048576 := ⟨false, 1048576, by decide, by decide, rfl⟩
  rw [hx.order h1, hx.order h2]
  exact ⟨ord_ge _ _, ord_le _ _⟩

/-- May a number be a part? -/
def inB (n : Int) : Bool := decide (-1048576 ≤ n) && decide (n ≤ 1048576)
theorem inB_iff (n : Int) : inB n = true ↔ -1048576 ≤ n ∧ n ≤ 1048576 := by simp [inB]
theorem inB_not (n : Int) : inB n = false ↔ n < -1048576 ∨ 1048576 < n := by
  unfold inB
  rw [Bool.and_eq_false_iff, decide_eq_false_iff_not, decide_eq_false_iff_not]
  omega
abbrev fl (n : Int) : Nat := floatOfInt .f64 n
theorem fl_rep {n : Int} (h : inB n = true) : Rep (fl n) n := Rep.ofInt n (by have := (inB_iff n).1 h; omega)

theorem inside_any (x : Nat) (n : Int) (hx : Rep x n) (w : World) :
    Calls Try.prog 18 #[.float .f64 x] w fun e w' => e = .returned (.bool (inB n)) ∧ w' = w := by
  unfold inB
  obtain ⟨c1, c2⟩ := cmps x n hx
  have hc : ∀ w, (convert 41 3 (.float .f64 x)).run Try.prog w = .ok (.int .i64 n) w := fun w => run_convert_float_int w 41 3 .f64 .i64 x n (by rw [Try.underlying41]; rfl) Try.underlying3 hx.toInt
  cases d1 : decide (-1048576 ≤ n) <;> cases d2 : decide (n ≤ 1048576) <;> simp only [d1, d2] at c1 c2
  case true.true =>
    have he : (FloatKind.f64.format.order x (floatOfInt .f64 n) == some .eq) = true := by
      rw [hx.order (Rep.ofInt n (by simp at d1 d2; omega)), ord_eq]; simp
    go_enter Try.func18, Try.ntmps18
    go_wp2
    go_ret
    exact ⟨rfl, rfl⟩
  all_goals
    go_enter Try.func18, Try.ntmps18
    go_wp2
    go_ret
    exact ⟨rfl, rfl⟩

theorem right_any (x y : Nat) (n m : Int) (hx : Rep x n) (hy : Rep y m) (w : World) :
    Calls Try.prog 15 #[.complex .f64 x y] w fun e w' => e = .returned (.bool (inB n && inB m)) ∧ w' = w := by
  cases d1 : inB n <;> cases d2 : inB m
  all_goals
    go_enter Try.func15, Try.ntmps15
    go_wp2_with (go_at_call 18; refine (inside_any _ _ (by assumption) _).mono ?_; rintro e w' ⟨rfl, rfl⟩)
    go_ret
    exact ⟨rfl, rfl⟩

theorem parts_any (x y : Nat) (n m : Int) (hx : Rep x n) (hy : Rep y m) (w : World) :
    Calls Try.prog 16 #[.complex .f64 x y] w fun e w' => e = .returned (if (inB n && inB m) = true then .tuple #[.int .i64 n, .int .i64 m, .bool true] else .tuple #[.int .i64 0, .int .i64 0, .bool false]) ∧ w' = w := by
  have hc : ∀ w, (convert 41 3 (.float .f64 x)).run Try.prog w = .ok (.int .i64 n) w := fun w => run_convert_float_int w 41 3 .f64 .i64 x n (by rw [Try.underlying41]; rfl) Try.underlying3 hx.toInt
  have hd : ∀ w, (convert 41 3 (.float .f64 y)).run Try.prog w = .ok (.int .i64 m) w := fun w => run_convert_float_int w 41 3 .f64 .i64 y m (by rw [Try.underlying41]; rfl) Try.underlying3 hy.toInt
  cases d : (inB n && inB m)
  all_goals
    go_enter Try.func16, Try.ntmps16
    go_wp2_with (go_at_call 15; refine (right_any _ _ _ _ (by assumption) (by assumption) _).mono ?_; rintro e w' ⟨rfl, rfl⟩)
    go_ret3
    exact ⟨rfl, rfl⟩

theorem whole_any (n m : Int) (w : World) :
    Calls Try.prog 5 #[.int .i64 n, .int .i64 m] w fun e w' => e = .returned (if (inB n && inB m) = true then .tuple #[.complex .f64 (fl n) (fl m), .bool true] else .tuple #[.complex .f64 0 0, .bool false]) ∧ w' = w := by
  cases d1 : inB n <;> cases d2 : inB m <;> simp only [inB_iff, inB_not] at d1 d2
  all_goals
    go_enter Try.func5, Try.ntmps5
    go_wp2
    all_goals first
      | omega
      | (go_ret2; exact ⟨rfl, rfl⟩)

theorem plain_any (x y : Nat) (n m : Int) (hx : Rep x n) (hy : Rep y m) (w : World) :
    Calls Try.prog 17 #[.complex .f64 x y] w fun e w' => e = .returned (if (inB n && inB m) = true then .tuple #[.complex .f64 (fl n) (fl m), .bool true] else .tuple #[.complex .f64 0 0, .bool false]) ∧ w' = w := by
  cases d : (inB n && inB m)
  all_goals
    go_enter Try.func17, Try.ntmps17
    go_wp2_with (first
      | (go_at_call 16; refine (parts_any _ _ _ _ (by assumption) (by assumption) _).mono ?_; rintro e w' ⟨rfl, rfl⟩; simp only [d])
      | (go_at_call 5; refine (whole_any _ _ _).mono ?_; rintro e w' ⟨rfl, rfl⟩; simp only [d]))
    go_ret2
    exact ⟨rfl, rfl⟩
end Go.Proofs.Ytjngnmpjkiafpaa
