import Derived.Test.YtjngnmpjkiafpaaDoorBas
import Derived.Test.YtjngnmpjkiafpaaDoorCvMath
import Derived.Lib.LaidTab
import Derived.Lib.SmallJoins
import Derived.Lib.ItoaMem
namespace Go.Proofs.YtjngnmpjkiafpaaDoor
open Go.RowKit Cv

/-- The tables: powers of ten, and days of months. -/
structure CTab (w : World) : Prop where
  pow : Lib.TabIs Tryd.prog w "internal/strconv.uint64pow10" .u64 Lib.pow10Tab
  md : Lib.TabIs Tryd.prog w "fusee/civil.monthDays" .i64 mdTab
theorem pow_named : ∃ g, Tryd.prog.globalNamed "internal/strconv.uint64pow10" = some g := Option.isSome_iff_exists.1 (by kernel_rfl)
theorem md_named : Tryd.prog.globalNamed "fusee/civil.monthDays" = some 0 := by kernel_rfl
theorem CTab.on {w w' : World} (h : CTab w) (hb : Below w.heap.size w w') : CTab w' := by
  obtain ⟨g, hg⟩ := pow_named
  exact ⟨Go.Joins.tab_stays hg h.pow hb (Nat.le_refl _), Go.Joins.tab_stays md_named h.md hb (Nat.le_refl _)⟩
theorem CTab.cell {w : World} (h : CTab w) (i : Nat) (hi : i < 12) : w.cell? ⟨0, i, none⟩ = some (.int .i64 (mdTab.getD i 0)) :=
  h.md.cell md_named i hi

theorem long_any (y : Int) (w : World) :
    Calls Tryd.prog 10 #[.int .i64 y] w fun e w' => e = .returned (.bool (longB y)) ∧ w' = w := by
  unfold longB
  cases d1 : (y.tmod 4 == 0) <;> cases d2 : (y.tmod 100 == 0) <;> cases d3 : (y.tmod 400 == 0)
  all_goals
    have d4 : (y.tmod 100 != 0) = !(y.tmod 100 == 0) := rfl
    rw [d2] at d4
    clear d2
    go_enter Tryd.func10, Tryd.ntmps10
    go_wp2
    go_ret
    exact ⟨rfl, rfl⟩
theorem rlong_any (y : Int) (w : World) :
    Calls Tryd.prog 11 #[.int .i64 y] w fun e w' => e = .returned (.bool (longB y)) ∧ w' = w := by
  unfold longB
  cases d1 : (y.tmod 4 == 0) <;> cases d2 : (y.tmod 100 == 0) <;> cases d3 : (y.tmod 400 == 0)
  all_goals
    have d4 : (y.tmod 100 != 0) = !(y.tmod 100 == 0) := rfl
    rw [d2] at d4
    clear d2
    go_enter Tryd.func11, Tryd.ntmps11
    go_wp2
    go_ret
    exact ⟨rfl, rfl⟩

theorem mdZ_at (m : Int) (h : 1 ≤ m) (h' : m ≤ 12) : ∀ w, CTab w → w.cell? ⟨0, (m - 1).toNat, none⟩ = some (.int .i64 (mdZ m)) :=
  fun w hw => hw.cell (m - 1).toNat (by omega)
set_option maxHeartbeats 1000000 in
theorem days_any (y m : Int) (w : World) (hw : CTab w) :
    Calls Tryd.prog 12 #[.int .i64 y, .int .i64 m] w fun e w' => e = .returned (.int .i64 (daysZ y m)) ∧ w' = w := by
  by_cases h : y < 1 ∨ 9999 < y ∨ m < 1 ∨ 12 < m
  · have e : daysZ y m = 0 := by unfold daysZ; rw [if_pos h]
    rw [e]
    go_enter Tryd.func12, Tryd.ntmps12
    go_wp2_with fail
    all_goals
      first
        | (go_ret; exact ⟨rfl, rfl⟩)
        | (exfalso; omega)
  · have h1 : 1 ≤ y := by omega
    have h2 : y ≤ 9999 := by omega
    have h3 : 1 ≤ m := by omega
    have h4 : m ≤ 12 := by omega
    have c1 : w.cell? ⟨0, m.toNat - 1, none⟩ = some (.int .i64 (mdZ m)) := by rw [show m.toNat - 1 = (m - 1).toNat by omega]; exact mdZ_at m h3 h4 w hw
    have c2 : w.cell? ⟨0, 1, none⟩ = some (.int .i64 28) := hw.cell 1 (by omega)
    by_cases hm : m = 2
    · subst hm
      have e : daysZ y 2 = if longB y = true then 29 else 28 := by unfold daysZ; rw [if_neg h]; simp [mdZ, mdTab]
      rw [e]
      clear h c1
      cases hl : longB y
      all_goals
        go_enter Tryd.func12, Tryd.ntmps12
        go_wp2_with (go_at_call 10; refine (long_any _ _).mono ?_; rintro e w' ⟨rfl, rfl⟩)
        go_ret
        exact ⟨rfl, rfl⟩
    · have e : daysZ y m = mdZ m := by unfold daysZ; rw [if_neg h, if_neg (by omega)]
      rw [e]
      clear h
      go_enter Tryd.func12, Tryd.ntmps12
      go_wp2_with (go_at_call 10; refine (long_any _ _).mono ?_; rintro e w' ⟨rfl, rfl⟩)
      go_ret
      exact ⟨rfl, rfl⟩

theorem rdays_cell (m : Int) (h3 : 1 ≤ m) (h4 : m ≤ 12) (w : World) :
    (w.alloc (.cells #[.int .i64 31, .int .i64 28, .int .i64 31, .int .i64 30, .int .i64 31, .int .i64 30, .int .i64 31, .int .i64 31, .int .i64 30, .int .i64 31, .int .i64 30, .int .i64 31] 3)).cell? ⟨w.heap.size, m.toNat - 1, none⟩ = some (.int .i64 (mdZ m)) := by
  rcases month_cases h3 h4 with rfl | rfl | rfl | rfl | rfl | rfl | rfl | rfl | rfl | rfl | rfl | rfl
  all_goals simp [go_sem, mdZ, mdTab]
set_option maxHeartbeats 1000000 in
theorem rdays_any (y m : Int) (w : World) :
    Calls Tryd.prog 13 #[.int .i64 y, .int .i64 m] w fun e w' => e = .returned (.int .i64 (daysZ y m)) ∧ Below w.heap.size w w' := by
  by_cases h : y < 1 ∨ 9999 < y ∨ m < 1 ∨ 12 < m
  · have e : daysZ y m = 0 := by unfold daysZ; rw [if_pos h]
    rw [e]
    go_enter Tryd.func13, Tryd.ntmps13
    go_wp2_with fail
    all_goals
      first
        | (go_ret; exact ⟨rfl, Below.refl _ _⟩)
        | (exfalso; omega)
  · have h1 : 1 ≤ y := by omega
    have h2 : y ≤ 9999 := by omega
    have h3 : 1 ≤ m := by omega
    have h4 : m ≤ 12 := by omega
    have c1 := rdays_cell m h3 h4 w
    by_cases hm : m = 2
    · subst hm
      have e : daysZ y 2 = if longB y = true then 29 else 28 := by unfold daysZ; rw [if_neg h]; simp [mdZ, mdTab]
      rw [e]
      clear h c1
      cases hl : longB y
      all_goals
        go_enter Tryd.func13, Tryd.ntmps13
        go_wp2_with (go_at_call 11; refine (rlong_any _ _).mono ?_; rintro e w' ⟨rfl, rfl⟩)
        go_ret
        first | exact ⟨rfl, Below.refl _ _⟩ | exact ⟨rfl, below1 _ _⟩
    · have e : daysZ y m = mdZ m := by unfold daysZ; rw [if_neg h, if_neg (by omega)]
      rw [e]
      clear h
      go_enter Tryd.func13, Tryd.ntmps13
      go_wp2_with (go_at_call 11; refine (rlong_any _ _).mono ?_; rintro e w' ⟨rfl, rfl⟩)
      go_ret
      exact ⟨rfl, below1 _ _⟩
theorem ryear_any (y : Int) (w : World) :
    Calls Tryd.prog 34 #[.int .i64 y] w fun e w' => e = .returned (.int .i64 (365 + lY y)) ∧ w' = w := by
  unfold lY
  cases h : longB y
  all_goals
    go_enter Tryd.func34, Tryd.ntmps34
    go_wp2_with (go_at_call 11; refine (rlong_any _ _).mono ?_; rintro e w' ⟨rfl, rfl⟩)
    go_ret
    exact ⟨rfl, rfl⟩
end Go.Proofs.YtjngnmpjkiafpaaDoor
