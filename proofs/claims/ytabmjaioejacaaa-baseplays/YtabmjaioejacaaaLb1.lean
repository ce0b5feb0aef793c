/- The law's own before and due. -/
import Derived.Test.YtabmjaioejacaaaBaMath2
import Derived.Test.YtabmjaioejacaaaBv
import Derived.Test.YtabmjaioejacaaaQueA
namespace Go.Proofs.Ytabmjaioejacaaa
open Go.RowKit Kt Qu
set_option linter.unusedVariables false

set_option maxRecDepth 20000 in
set_option maxHeartbeats 1000000 in
theorem before_any (w : World) (a b : Tmr) : Calls Try.prog 18 #[tv a, tv b] w fun e w' => e = .returned (.bool (befB a b)) ∧ Below w.heap.size w w' := by
  obtain ⟨C, hC⟩ : ∃ C, w.heap.size = C := ⟨_, rfl⟩
  obtain ⟨a1, a2, a3, a4, a5⟩ := a
  obtain ⟨b1, b2, b3, b4, b5⟩ := b
  obtain ⟨W1, hW1⟩ : ∃ W1, W1 = w.alloc (.cells #[.int .i64 a1, .int .i64 a2, .int .i64 a3, .int .i64 a4, .bool a5] 29) := ⟨_, rfl⟩
  obtain ⟨W2, hW2⟩ : ∃ W2, W2 = W1.alloc (.cells #[.int .i64 b1, .int .i64 b2, .int .i64 b3, .int .i64 b4, .bool b5] 29) := ⟨_, rfl⟩
  have s1 : W1.heap.size = C + 1 := by rw [hW1, ← hC]; simp
  have l1 : Below C w W1 := by rw [hW1, ← hC]; exact one_below _ _
  have l2 : Below W1.heap.size W1 W2 := by rw [hW2]; exact one_below _ _
  have k1 : Blk W1 C 29 #[.int .i64 a1, .int .i64 a2, .int .i64 a3, .int .i64 a4, .bool a5] := by rw [hW1]; exact Blk.new_at _ _ _ hC.symm
  have k2 : Blk W2 (C + 1) 29 #[.int .i64 b1, .int .i64 b2, .int .i64 b3, .int .i64 b4, .bool b5] := by rw [hW2]; exact Blk.new_at _ _ _ s1.symm
  have k1' := k1.below l2 k1.lt
  have x1 := blkAt k1' 1 (.int .i64 a2) rfl
  have x2 := blkAt k1' 2 (.int .i64 a3) rfl
  have x4 := blkAt k1' 4 (.bool a5) rfl
  have y1 := blkAt k2 1 (.int .i64 b2) rfl
  have y2 := blkAt k2 2 (.int .i64 b3) rfl
  have y4 := blkAt k2 4 (.bool b5) rfl
  have HB := hide (l1.trans (l2.mono (by omega)))
  have CA := fun w' => hide (rclamp_any a3 w')
  have CB := fun w' => hide (rclamp_any b3 w')
  have HX := hide (show befB ⟨a1, a2, a3, a4, a5⟩ ⟨b1, b2, b3, b4, b5⟩ = if a2 ≠ b2 then decide (a2 < b2) else if a5 ≠ b5 then !a5 else decide (clampZ a3 ≤ clampZ b3) from rfl)
  generalize befB ⟨a1, a2, a3, a4, a5⟩ ⟨b1, b2, b3, b4, b5⟩ = r at *
  generalize clampZ a3 = A3 at *
  generalize clampZ b3 = B3 at *
  rw [hW2, hW1] at x1 x2 x4 y1 y2 y4 HB
  rw [hC]
  clear hW1 hW2 s1 l1 l2 k1 k2 k1'
  unfold tv
  simp only
  by_cases h1 : a2 = b2
  · subst h1
    have hb1 : (a2 == a2) = true := by simp
    cases a5 <;> cases b5
    · go_enter Try.func18, Try.ntmps18
      go_wp2
      go_quiet (first | (go_at_call 24; with_reducible refine (unhide (CA _)).mono ?_; rintro e w9 ⟨rfl, rfl⟩; exact ⟨rfl, _, rfl⟩) | (go_at_call 24; with_reducible refine (unhide (CB _)).mono ?_; rintro e w9 ⟨rfl, rfl⟩; exact ⟨rfl, _, rfl⟩))
      go_wp2
      go_ret
      exact ⟨by (rw [unhide HX, if_neg (by simp), if_neg (by simp)]) <;> rfl, (unhide HB).trans ⟨rfl, rfl, rfl, Nat.le_refl _, fun _ _ => rfl⟩⟩
    · go_enter Try.func18, Try.ntmps18
      go_wp2
      go_ret
      exact ⟨by (rw [unhide HX, if_neg (by simp), if_pos (by simp)]) <;> rfl, unhide HB⟩
    · go_enter Try.func18, Try.ntmps18
      go_wp2
      go_ret
      exact ⟨by (rw [unhide HX, if_neg (by simp), if_pos (by simp)]) <;> rfl, unhide HB⟩
    · go_enter Try.func18, Try.ntmps18
      go_wp2
      go_quiet (first | (go_at_call 24; with_reducible refine (unhide (CA _)).mono ?_; rintro e w9 ⟨rfl, rfl⟩; exact ⟨rfl, _, rfl⟩) | (go_at_call 24; with_reducible refine (unhide (CB _)).mono ?_; rintro e w9 ⟨rfl, rfl⟩; exact ⟨rfl, _, rfl⟩))
      go_wp2
      go_ret
      exact ⟨by (rw [unhide HX, if_neg (by simp), if_neg (by simp)]) <;> rfl, (unhide HB).trans ⟨rfl, rfl, rfl, Nat.le_refl _, fun _ _ => rfl⟩⟩
  · have hb1 : (a2 == b2) = false := by rw [beq_eq_false_iff_ne]; exact h1
    go_enter Try.func18, Try.ntmps18
    go_wp2
    go_ret
    exact ⟨by (rw [unhide HX, if_pos h1]) <;> rfl, unhide HB⟩
set_option maxRecDepth 20000 in
set_option maxHeartbeats 1000000 in
theorem ldue_any (w : World) (t : Tmr) (f0 f1 f2 : Int) (h0 : 0 ≤ t.clock) (h2 : t.clock ≤ 2) : Calls Try.prog 10 #[tv t, .agg #[.int .i64 f0, .int .i64 f1, .int .i64 f2]] w fun e w' => e = .returned (.bool (decide (dueT (tri f0 f1 f2 t.clock.toNat) t))) ∧ Below w.heap.size w w' := by
  obtain ⟨C, hC⟩ : ∃ C, w.heap.size = C := ⟨_, rfl⟩
  obtain ⟨a1, a2, a3, a4, a5⟩ := t
  simp only at h0 h2
  obtain ⟨W1, hW1⟩ : ∃ W1, W1 = w.alloc (.cells #[.int .i64 a1, .int .i64 a2, .int .i64 a3, .int .i64 a4, .bool a5] 29) := ⟨_, rfl⟩
  obtain ⟨W2, hW2⟩ : ∃ W2, W2 = W1.alloc (.cells #[.int .i64 f0, .int .i64 f1, .int .i64 f2] 23) := ⟨_, rfl⟩
  have s1 : W1.heap.size = C + 1 := by rw [hW1, ← hC]; simp
  have l1 : Below C w W1 := by rw [hW1, ← hC]; exact one_below _ _
  have l2 : Below W1.heap.size W1 W2 := by rw [hW2]; exact one_below _ _
  have k1 : Blk W1 C 29 #[.int .i64 a1, .int .i64 a2, .int .i64 a3, .int .i64 a4, .bool a5] := by rw [hW1]; exact Blk.new_at _ _ _ hC.symm
  have k2 : Blk W2 (C + 1) 23 #[.int .i64 f0, .int .i64 f1, .int .i64 f2] := by rw [hW2]; exact Blk.new_at _ _ _ s1.symm
  have k1' := k1.below l2 k1.lt
  have x1 := blkAt k1' 1 (.int .i64 a2) rfl
  have x2 := blkAt k1' 2 (.int .i64 a3) rfl
  obtain ⟨kc, hkc⟩ : ∃ kc : Nat, a2 = (kc : Int) := ⟨a2.toNat, by omega⟩
  subst hkc
  rw [show ((kc : Int)).toNat = kc from rfl]
  have hk3 : kc < 3 := by omega
  obtain ⟨now, hnow⟩ : ∃ now, tri f0 f1 f2 kc = now := ⟨_, rfl⟩
  rw [hnow]
  have y1 : W2.cell? ⟨C + 1, kc, none⟩ = some (.int .i64 now) := by
    have h := tri_at f0 f1 f2 hk3
    rw [hnow] at h
    rcases h with ⟨rfl, rfl⟩ | ⟨rfl, rfl⟩ | ⟨rfl, rfl⟩
    · exact blkAt k2 0 (.int .i64 now) rfl
    · exact blkAt k2 1 (.int .i64 now) rfl
    · exact blkAt k2 2 (.int .i64 now) rfl
  have hk4 : (kc : Int) < 3 := by omega
  have hk5 : (0 : Int) ≤ (kc : Int) ∧ (kc : Int) < 3 := by omega
  have HB := hide (l1.trans (l2.mono (by omega)))
  have CA := fun w' => hide (rclamp_any a3 w')
  have CB := fun w' => hide (rclamp_any now w')
  have HX := hide (show decide (dueT now ⟨a1, kc, a3, a4, a5⟩) = (decide (a3 < 4611686018427387903) && decide (clampZ a3 ≤ clampZ now)) from by unfold dueT; exact Bool.decide_and _ _)
  generalize decide (dueT now ⟨a1, kc, a3, a4, a5⟩) = r at *
  generalize clampZ a3 = A3 at *
  generalize clampZ now = B3 at *
  rw [hW2, hW1] at x1 x2 y1 HB
  rw [hC]
  clear hW1 hW2 s1 l1 l2 k1 k2 k1' hnow
  unfold tv
  simp only
  by_cases h1 : a3 < 4611686018427387903
  · have hb1 : decide (a3 < 4611686018427387903) = true := decide_eq_true h1
    go_enter Try.func10, Try.ntmps10
    go_wp2
    go_quiet (first | (go_at_call 24; with_reducible refine (unhide (CA _)).mono ?_; rintro e w9 ⟨rfl, rfl⟩; exact ⟨rfl, _, rfl⟩) | (go_at_call 24; with_reducible refine (unhide (CB _)).mono ?_; rintro e w9 ⟨rfl, rfl⟩; exact ⟨rfl, _, rfl⟩))
    go_wp2
    go_ret
    exact ⟨by (rw [unhide HX, hb1, Bool.true_and]) <;> rfl, (unhide HB).trans ⟨rfl, rfl, rfl, Nat.le_refl _, fun _ _ => rfl⟩⟩
  · have hb1 : decide (a3 < 4611686018427387903) = false := decide_eq_false h1
    go_enter Try.func10, Try.ntmps10
    go_wp2
    go_quiet (fail)
    go_wp2
    go_ret
    exact ⟨by (rw [unhide HX, hb1, Bool.false_and]) <;> rfl, (unhide HB).trans ⟨rfl, rfl, rfl, Nat.le_refl _, fun _ _ => rfl⟩⟩
end Go.Proofs.Ytabmjaioejacaaa
