import Derived.Test.YtjngnmpjkiafpaaPh2
namespace Go.Proofs.Ytjngnmpjkiafpaa
open Go.RowKit Ph

def gtB (q n m : Int) : Bool := decide (0 < tx (q % 4) n m)
def geB (q n m : Int) : Bool := decide (0 ≤ ty (q % 4) n m)

theorem turn_named (x y : Nat) (n m : Int) (hx : Rep x n) (hy : Rep y m) (h1 : inB n = true) (h2 : inB m = true) (q : Int) (w : World) :
    Calls Try.prog 6 #[.complex .f64 x y, .int .i64 q] w fun e w' => ∃ X Y, e = .returned (.complex .f64 X Y) ∧ (FloatKind.f64.format.order X 0 == some .gt) = gtB q n m ∧
      (FloatKind.f64.format.order Y 0 == some .gt || FloatKind.f64.format.order Y 0 == some .eq) = geB q n m ∧ w' = w := by
  refine (turn_any x y n m q hx hy h1 h2 w).mono ?_
  rintro e w' ⟨rfl, rfl⟩
  have hi := turn_in (k := q % 4) (by omega) h1 h2
  have z0 : Rep 0 0 := ⟨false, 0, by decide, by decide, rfl⟩
  refine ⟨_, _, rfl, ?_, ?_, rfl⟩
  · rw [(fl_rep hi.1).order z0, ord_gt]; rfl
  · rw [(fl_rep hi.2).order z0, ord_ge]; rfl

/-- Which quarter. -/
def quZ (n m : Int) : Int := if 0 < n ∧ 0 ≤ m then 0 else if 0 < m ∧ n ≤ 0 then 1 else if n < 0 ∧ m ≤ 0 then 2 else if m < 0 ∧ 0 ≤ n then 3 else -1

theorem gt_vals (n m : Int) : gtB 0 n m = decide (0 < n) ∧ gtB (-1) n m = decide (0 < m) ∧ gtB (-2) n m = decide (n < 0) ∧ gtB (-3) n m = decide (m < 0) ∧
    geB 0 n m = decide (0 ≤ m) ∧ geB (-1) n m = decide (n ≤ 0) ∧ geB (-2) n m = decide (m ≤ 0) ∧ geB (-3) n m = decide (0 ≤ n) := by
  unfold gtB geB tx ty
  refine ⟨?_, ?_, ?_, ?_, ?_, ?_, ?_, ?_⟩ <;> simp [ux, uy] <;> omega

set_option maxHeartbeats 1000000 in
theorem quarter_any (x y : Nat) (n m : Int) (hx : Rep x n) (hy : Rep y m) (h1 : inB n = true) (h2 : inB m = true) (w : World) :
    Calls Try.prog 13 #[.complex .f64 x y] w fun e w' => e = .returned (.int .i64 (quZ n m)) ∧ w' = w := by
  obtain ⟨g0, g1, g2, g3, k0, k1, k2, k3⟩ := gt_vals n m
  by_cases c0 : 0 < n ∧ 0 ≤ m
  · have e : quZ n m = 0 := by unfold quZ; rw [if_pos c0]
    rw [e]
    rw [decide_eq_true c0.1] at g0
    rw [decide_eq_true c0.2] at k0
    go_enter Try.func13, Try.ntmps13
    go_wp2
    refine wp_loop_rounds 1 ?_
    rw [rounds_succ]
    go_wp2_with (go_at_call 6; refine (turn_named _ _ n m hx hy h1 h2 _ _).mono ?_; rintro e w' ⟨X, Y, rfl, hX, hY, rfl⟩)
    go_ret
    exact ⟨rfl, rfl⟩
  by_cases c1 : 0 < m ∧ n ≤ 0
  · have e : quZ n m = 1 := by unfold quZ; rw [if_neg c0, if_pos c1]
    rw [e]
    rw [decide_eq_false (by omega)] at g0
    rw [decide_eq_true c1.1] at g1
    rw [decide_eq_true c1.2] at k1
    go_enter Try.func13, Try.ntmps13
    go_wp2
    refine wp_loop_rounds 2 ?_
    rw [rounds_succ]
    go_wp2_with (go_at_call 6; refine (turn_named _ _ n m hx hy h1 h2 _ _).mono ?_; rintro e w' ⟨X, Y, rfl, hX, hY, rfl⟩)
    rw [rounds_succ]
    go_wp2_with (go_at_call 6; refine (turn_named _ _ n m hx hy h1 h2 _ _).mono ?_; rintro e w' ⟨X, Y, rfl, hX, hY, rfl⟩)
    go_ret
    exact ⟨rfl, rfl⟩
  by_cases c2 : n < 0 ∧ m ≤ 0
  · have e : quZ n m = 2 := by unfold quZ; rw [if_neg c0, if_neg c1, if_pos c2]
    rw [e]
    rw [decide_eq_false (by omega)] at g0
    rw [decide_eq_false (by omega)] at g1
    rw [decide_eq_true c2.1] at g2
    rw [decide_eq_true c2.2] at k2
    go_enter Try.func13, Try.ntmps13
    go_wp2
    refine wp_loop_rounds 3 ?_
    rw [rounds_succ]
    go_wp2_with (go_at_call 6; refine (turn_named _ _ n m hx hy h1 h2 _ _).mono ?_; rintro e w' ⟨X, Y, rfl, hX, hY, rfl⟩)
    rw [rounds_succ]
    go_wp2_with (go_at_call 6; refine (turn_named _ _ n m hx hy h1 h2 _ _).mono ?_; rintro e w' ⟨X, Y, rfl, hX, hY, rfl⟩)
    rw [rounds_succ]
    go_wp2_with (go_at_call 6; refine (turn_named _ _ n m hx hy h1 h2 _ _).mono ?_; rintro e w' ⟨X, Y, rfl, hX, hY, rfl⟩)
    go_ret
    exact ⟨rfl, rfl⟩
  by_cases c3 : m < 0 ∧ 0 ≤ n
  · have e : quZ n m = 3 := by unfold quZ; rw [if_neg c0, if_neg c1, if_neg c2, if_pos c3]
    rw [e]
    rw [decide_eq_false (by omega)] at g1
    rw [decide_eq_false (by omega)] at g2
    rw [decide_eq_true c3.1] at g3
    rw [decide_eq_true c3.2] at k3
    rw [decide_eq_false (by omega)] at k0
    cases d : decide (0 < n) <;> rw [d] at g0
    all_goals
      go_enter Try.func13, Try.ntmps13
      go_wp2
      refine wp_loop_rounds 4 ?_
      rw [rounds_succ]
      go_wp2_with (go_at_call 6; refine (turn_named _ _ n m hx hy h1 h2 _ _).mono ?_; rintro e w' ⟨X, Y, rfl, hX, hY, rfl⟩)
      rw [rounds_succ]
      go_wp2_with (go_at_call 6; refine (turn_named _ _ n m hx hy h1 h2 _ _).mono ?_; rintro e w' ⟨X, Y, rfl, hX, hY, rfl⟩)
      rw [rounds_succ]
      go_wp2_with (go_at_call 6; refine (turn_named _ _ n m hx hy h1 h2 _ _).mono ?_; rintro e w' ⟨X, Y, rfl, hX, hY, rfl⟩)
      rw [rounds_succ]
      go_wp2_with (go_at_call 6; refine (turn_named _ _ n m hx hy h1 h2 _ _).mono ?_; rintro e w' ⟨X, Y, rfl, hX, hY, rfl⟩)
      go_ret
      exact ⟨rfl, rfl⟩
  · have e : quZ n m = -1 := by unfold quZ; rw [if_neg c0, if_neg c1, if_neg c2, if_neg c3]
    rw [e]
    rw [decide_eq_false (by omega)] at g0
    rw [decide_eq_false (by omega)] at g1
    rw [decide_eq_false (by omega)] at g2
    rw [decide_eq_false (by omega)] at g3
    go_enter Try.func13, Try.ntmps13
    go_wp2
    refine wp_loop_rounds 5 ?_
    rw [rounds_succ]
    go_wp2_with (go_at_call 6; refine (turn_named _ _ n m hx hy h1 h2 _ _).mono ?_; rintro e w' ⟨X, Y, rfl, hX, hY, rfl⟩)
    rw [rounds_succ]
    go_wp2_with (go_at_call 6; refine (turn_named _ _ n m hx hy h1 h2 _ _).mono ?_; rintro e w' ⟨X, Y, rfl, hX, hY, rfl⟩)
    rw [rounds_succ]
    go_wp2_with (go_at_call 6; refine (turn_named _ _ n m hx hy h1 h2 _ _).mono ?_; rintro e w' ⟨X, Y, rfl, hX, hY, rfl⟩)
    rw [rounds_succ]
    go_wp2_with (go_at_call 6; refine (turn_named _ _ n m hx hy h1 h2 _ _).mono ?_; rintro e w' ⟨X, Y, rfl, hX, hY, rfl⟩)
    rw [rounds_succ]
    go_wp2
    go_ret
    exact ⟨rfl, rfl⟩

theorem rright_any (n m : Int) (w : World) :
    Calls Try.prog 7 #[.agg #[.int .i64 n, .int .i64 m]] w fun e w' => e = .returned (.bool (inB n && inB m)) ∧ Below w.heap.size w w' := by
  unfold inB
  have hb0 : Below w.heap.size w (w.alloc (.cells #[.int .i64 n, .int .i64 m] 32)) := (Below.refl _ _).alloc (Nat.le_refl _) _
  cases d1 : decide (-1048576 ≤ n) <;> cases d2 : decide (n ≤ 1048576) <;> cases d3 : decide (-1048576 ≤ m) <;> cases d4 : decide (m ≤ 1048576)
  all_goals
    go_enter Try.func7, Try.ntmps7
    go_wp2
    go_ret
    exact ⟨rfl, hb0⟩

theorem below1 (w : World) (a : Obj) : Below w.heap.size w (w.alloc a) := (Below.refl _ _).alloc (Nat.le_refl _) _
theorem below2 (w : World) (a b : Obj) : Below w.heap.size w ((w.alloc a).alloc b) := (below1 w a).alloc (below1 w a).size _
end Go.Proofs.Ytjngnmpjkiafpaa
