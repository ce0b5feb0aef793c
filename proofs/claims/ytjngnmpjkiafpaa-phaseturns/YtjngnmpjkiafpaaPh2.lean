import Derived.Test.YtjngnmpjkiafpaaPh
namespace Go.Proofs.Ytjngnmpjkiafpaa
open Go.RowKit Ph

/-- 1, turned so often. -/
def ux (k : Int) : Int := if k = 0 then 1 else if k = 2 then -1 else 0
def uy (k : Int) : Int := if k = 1 then 1 else if k = 3 then -1 else 0

theorem unit_any (q : Int) (w : World) :
    Calls Try.prog 14 #[.int .i64 q] w fun e w' => ∃ c d, e = .returned (.complex .f64 c d) ∧ Rep c (ux (q % 4)) ∧ Rep d (uy (q % 4)) ∧ w' = w := by
  have h := and3 q
  have hk : q % 4 = 0 ∨ q % 4 = 1 ∨ q % 4 = 2 ∨ q % 4 = 3 := by omega
  have z0 : Rep 0 0 := ⟨false, 0, by decide, by decide, rfl⟩
  have z1 : Rep 4607182418800017408 1 := ⟨false, 1, by decide, by decide, rfl⟩
  have z2 : Rep 13830554455654793216 (-1) := ⟨true, 1, by decide, by decide, rfl⟩
  have z3 : Rep 9223372036854775808 0 := ⟨true, 0, by decide, by decide, rfl⟩
  rcases hk with k | k | k | k <;> rw [k] at h ⊢
  all_goals
    go_enter Try.func14, Try.ntmps14
    go_wp2
    go_ret
    exact ⟨_, _, rfl, by assumption, by assumption, rfl⟩

/-- A product, if all are whole. -/
def mulB (n1 m1 n2 m2 : Int) : Bool := (inB n1 && inB m1) && (inB n2 && inB m2) && (inB (n1 * n2 - m1 * m2) && inB (n1 * m2 + m1 * n2))
theorem inB_abs {n : Int} (h : inB n = true) : n.natAbs ≤ 1048576 := by
  have := (inB_iff n).1 h
  omega

theorem mul_any (a b c d : Nat) (n1 m1 n2 m2 : Int) (ha : Rep a n1) (hb : Rep b m1) (hc : Rep c n2) (hd : Rep d m2) (w : World) :
    Calls Try.prog 11 #[.complex .f64 a b, .complex .f64 c d] w fun e w' => e = .returned (if mulB n1 m1 n2 m2 = true then .tuple #[.complex .f64 (fl (n1 * n2 - m1 * m2)) (fl (n1 * m2 + m1 * n2)), .bool true] else .tuple #[.complex .f64 0 0, .bool false]) ∧ w' = w := by
  unfold mulB
  cases d1 : (inB n1 && inB m1) <;> cases d2 : (inB n2 && inB m2)
  case true.true =>
    have e1 := Bool.and_eq_true_iff.1 d1
    have e2 := Bool.and_eq_true_iff.1 d2
    obtain ⟨re, im, hm, hre, him⟩ := ha.cmul hb hc hd (inB_abs e1.1) (inB_abs e1.2) (inB_abs e2.1) (inB_abs e2.2)
    have hop := fun t w => run_complex_mul (P := Try.prog) w t a b c d re im hm
    cases d3 : (inB (n1 * n2 - m1 * m2) && inB (n1 * m2 + m1 * n2))
    all_goals
      go_enter Try.func11, Try.ntmps11
      go_wp2_with (first
        | (go_at_call 15; refine (right_any _ _ _ _ (by assumption) (by assumption) _).mono ?_; rintro e w' ⟨rfl, rfl⟩)
        | (go_at_call 17; refine (plain_any _ _ _ _ hre him _).mono ?_; rintro e w' ⟨rfl, rfl⟩; simp only [d3]))
      go_ret2
      exact ⟨rfl, rfl⟩
  all_goals
    go_enter Try.func11, Try.ntmps11
    go_wp2_with (go_at_call 15; refine (right_any _ _ _ _ (by assumption) (by assumption) _).mono ?_; rintro e w' ⟨rfl, rfl⟩)
    go_ret2
    exact ⟨rfl, rfl⟩

/-- Both parts, turned so often. -/
def tx (k n m : Int) : Int := n * ux k - m * uy k
def ty (k n m : Int) : Int := n * uy k + m * ux k

theorem turn_in {k n m : Int} (hk : k = 0 ∨ k = 1 ∨ k = 2 ∨ k = 3) (h1 : inB n = true) (h2 : inB m = true) : inB (tx k n m) = true ∧ inB (ty k n m) = true := by
  rw [inB_iff] at *
  rw [inB_iff]
  unfold tx ty
  rcases hk with rfl | rfl | rfl | rfl <;> simp [ux, uy] <;> omega

theorem turn_any (x y : Nat) (n m q : Int) (hx : Rep x n) (hy : Rep y m) (h1 : inB n = true) (h2 : inB m = true) (w : World) :
    Calls Try.prog 6 #[.complex .f64 x y, .int .i64 q] w fun e w' => e = .returned (.complex .f64 (fl (tx (q % 4) n m)) (fl (ty (q % 4) n m))) ∧ w' = w := by
  have hk : q % 4 = 0 ∨ q % 4 = 1 ∨ q % 4 = 2 ∨ q % 4 = 3 := by omega
  have hi := turn_in hk h1 h2
  have hu : inB (ux (q % 4)) = true ∧ inB (uy (q % 4)) = true := by
    rcases hk with k | k | k | k <;> rw [k] <;> decide
  have hb : mulB n m (ux (q % 4)) (uy (q % 4)) = true := by
    unfold mulB
    have e1 : n * ux (q % 4) - m * uy (q % 4) = tx (q % 4) n m := rfl
    have e2 : n * uy (q % 4) + m * ux (q % 4) = ty (q % 4) n m := rfl
    rw [e1, e2, h1, h2, hu.1, hu.2, hi.1, hi.2]; rfl
  go_enter Try.func6, Try.ntmps6
  go_wp2_with (first
    | (go_at_call 14; refine (unit_any _ _).mono ?_; rintro e w' ⟨c, d, rfl, hc, hd, rfl⟩)
    | (go_at_call 11; refine (mul_any _ _ _ _ _ _ _ _ hx hy (by assumption) (by assumption) _).mono ?_; rintro e w' ⟨rfl, rfl⟩; simp only [hb]))
  go_ret
  exact ⟨rfl, rfl⟩

theorem norm_any (x y : Nat) (n m : Int) (hx : Rep x n) (hy : Rep y m) (h1 : inB n = true) (h2 : inB m = true) (w : World) :
    Calls Try.prog 12 #[.complex .f64 x y] w fun e w' => e = .returned (.int .i64 (n * n + m * m)) ∧ w' = w := by
  have b1 := abs_mul_le n n (inB_abs h1) (inB_abs h1)
  have b2 := abs_mul_le m m (inB_abs h2) (inB_abs h2)
  obtain ⟨p, hp⟩ : ∃ p, n * n = p := ⟨_, rfl⟩
  obtain ⟨r, hr⟩ : ∃ r, m * m = r := ⟨_, rfl⟩
  rw [hp] at b1
  rw [hr] at b2
  rw [hp, hr]
  have d : (inB n && inB m) = true := by rw [h1, h2]; rfl
  go_enter Try.func12, Try.ntmps12
  go_wp2_with (go_at_call 16; refine (parts_any _ _ _ _ hx hy _).mono ?_; rintro e w' ⟨rfl, rfl⟩; simp only [d])
  go_ret
  exact ⟨rfl, rfl⟩
end Go.Proofs.Ytjngnmpjkiafpaa
