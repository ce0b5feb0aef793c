import Derived.Test.YtjngnmpjkiafpaaDoorCv4
namespace Go.Proofs.YtjngnmpjkiafpaaDoor
open Go.RowKit Cv

/-- May a date be? -/
def rB (y m d H M S X : Int) : Bool := validB y m d && decide (0 ≤ H) && decide (H ≤ 23) && decide (0 ≤ M) && decide (M ≤ 59) && decide (0 ≤ S) && decide (S ≤ 59) && decide (0 ≤ X) && decide (X ≤ 999999999)
abbrev dateV (y m d H M S X : Int) : Value := .agg #[.int .i64 y, .int .i64 m, .int .i64 d, .int .i64 H, .int .i64 M, .int .i64 S, .int .i64 X]
theorem rB_iff (y m d H M S X : Int) : rB y m d H M S X = true ↔ validB y m d = true ∧ 0 ≤ H ∧ H ≤ 23 ∧ 0 ≤ M ∧ M ≤ 59 ∧ 0 ≤ S ∧ S ≤ 59 ∧ 0 ≤ X ∧ X ≤ 999999999 := by
  simp [rB, and_assoc]
theorem rB_not {y m d H M S X : Int} (h : ¬ (validB y m d = true ∧ 0 ≤ H ∧ H ≤ 23 ∧ 0 ≤ M ∧ M ≤ 59 ∧ 0 ≤ S ∧ S ≤ 59 ∧ 0 ≤ X ∧ X ≤ 999999999)) : rB y m d H M S X = false := by
  cases e : rB y m d H M S X
  · rfl
  · exact absurd ((rB_iff ..).1 e) h
theorem valid_not {y m d : Int} (h : validB y m d = false) : d < 1 ∨ daysZ y m < d := by
  have : ¬ (1 ≤ d ∧ d ≤ daysZ y m) := fun h' => by rw [(valid_iff y m d).2 h'] at h; cases h
  omega
set_option maxHeartbeats 2000000 in
theorem right_any (y m d H M S X : Int) (w : World) (hw : CTab w) :
    Calls Tryd.prog 26 #[dateV y m d H M S X] w fun e w' => e = .returned (.bool (rB y m d H M S X)) ∧ Below w.heap.size w w' := by
  have hq := fun n => hw.on (below1N w (.cells #[.int .i64 y, .int .i64 m, .int .i64 d, .int .i64 H, .int .i64 M, .int .i64 S, .int .i64 X] 35) n)
  have hbd := daysZ_bd y m
  obtain ⟨D, hD⟩ : ∃ D, daysZ y m = D := ⟨_, rfl⟩
  cases hv : validB y m d
  · rw [rB_not (by rw [hv]; simp)]
    have hn := valid_not hv
    rw [hD] at hbd hn
    by_cases hd : d < 1
    · clear hn
      have k1 : decide (1 ≤ d) = false := decide_eq_false (by omega)
      go_enter Tryd.func26, Tryd.ntmps26
      go_wp2_with fail
      go_quiet (first | (go_at_call 12; exact Calls.quiet_of_same (days_any _ _ _ (hq _))))
      go_wp2_with fail
      go_ret
      exact ⟨rfl, below1N _ _ _⟩
    · have hn : D < d := by omega
      have k1 : decide (1 ≤ d) = true := decide_eq_true (by omega)
      have k2 : decide (d ≤ D) = false := decide_eq_false (by omega)
      go_enter Tryd.func26, Tryd.ntmps26
      go_wp2_with fail
      go_quiet (first | (go_at_call 12; exact Calls.quiet_of_same (days_any _ _ _ (hq _))))
      go_wp2_with fail
      go_ret
      exact ⟨rfl, below1N _ _ _⟩
  · have hd := (valid_iff y m d).1 hv
    rw [hD] at hbd hd
    have k1 : decide (1 ≤ d) = true := decide_eq_true hd.1
    have k2 : decide (d ≤ D) = true := decide_eq_true hd.2
    clear hd
    have key : rB y m d H M S X = (decide (0 ≤ H) && decide (H ≤ 23) && decide (0 ≤ M) && decide (M ≤ 59) && decide (0 ≤ S) && decide (S ≤ 59) && decide (0 ≤ X) && decide (X ≤ 999999999)) := by
      unfold rB; rw [hv, Bool.true_and]
    rw [key]
    clear key hv
    cases d1 : decide (0 ≤ H)
    · go_enter Tryd.func26, Tryd.ntmps26
      go_wp2_with fail
      go_quiet (first | (go_at_call 12; exact Calls.quiet_of_same (days_any _ _ _ (hq _))))
      go_wp2_with fail
      go_ret
      exact ⟨rfl, below1N _ _ _⟩
    cases d2 : decide (H ≤ 23)
    · go_enter Tryd.func26, Tryd.ntmps26
      go_wp2_with fail
      go_quiet (first | (go_at_call 12; exact Calls.quiet_of_same (days_any _ _ _ (hq _))))
      go_wp2_with fail
      go_ret
      exact ⟨rfl, below1N _ _ _⟩
    cases d3 : decide (0 ≤ M)
    · go_enter Tryd.func26, Tryd.ntmps26
      go_wp2_with fail
      go_quiet (first | (go_at_call 12; exact Calls.quiet_of_same (days_any _ _ _ (hq _))))
      go_wp2_with fail
      go_ret
      exact ⟨rfl, below1N _ _ _⟩
    cases d4 : decide (M ≤ 59)
    · go_enter Tryd.func26, Tryd.ntmps26
      go_wp2_with fail
      go_quiet (first | (go_at_call 12; exact Calls.quiet_of_same (days_any _ _ _ (hq _))))
      go_wp2_with fail
      go_ret
      exact ⟨rfl, below1N _ _ _⟩
    cases d5 : decide (0 ≤ S)
    · go_enter Tryd.func26, Tryd.ntmps26
      go_wp2_with fail
      go_quiet (first | (go_at_call 12; exact Calls.quiet_of_same (days_any _ _ _ (hq _))))
      go_wp2_with fail
      go_ret
      exact ⟨rfl, below1N _ _ _⟩
    cases d6 : decide (S ≤ 59)
    · go_enter Tryd.func26, Tryd.ntmps26
      go_wp2_with fail
      go_quiet (first | (go_at_call 12; exact Calls.quiet_of_same (days_any _ _ _ (hq _))))
      go_wp2_with fail
      go_ret
      exact ⟨rfl, below1N _ _ _⟩
    cases d7 : decide (0 ≤ X)
    · go_enter Tryd.func26, Tryd.ntmps26
      go_wp2_with fail
      go_quiet (first | (go_at_call 12; exact Calls.quiet_of_same (days_any _ _ _ (hq _))))
      go_wp2_with fail
      go_ret
      exact ⟨rfl, below1N _ _ _⟩
    cases d8 : decide (X ≤ 999999999)
    all_goals
      go_enter Tryd.func26, Tryd.ntmps26
      go_wp2_with fail
      go_quiet (first | (go_at_call 12; exact Calls.quiet_of_same (days_any _ _ _ (hq _))))
      go_wp2_with fail
      go_ret
      exact ⟨rfl, below1N _ _ _⟩
end Go.Proofs.YtjngnmpjkiafpaaDoor
