import Derived.Test.YtjngnmpjkiafpaaDoorCv5
import Derived.Deep.RegionHeld3
namespace Go.Proofs.YtjngnmpjkiafpaaDoor
open Go.RowKit Cv

set_option maxRecDepth 100000 in
set_option maxHeartbeats 4000000 in
theorem rright_any (y m d H M S X : Int) (w : World) :
    Calls Tryd.prog 25 #[dateV y m d H M S X] w fun e w' => e = .returned (.bool (rB y m d H M S X)) ∧ Below w.heap.size w w' := by
  obtain ⟨W0, hW0⟩ : ∃ W0, W0 = w.alloc (.cells #[.int .i64 y, .int .i64 m, .int .i64 d, .int .i64 H, .int .i64 M, .int .i64 S, .int .i64 X] 35) := ⟨_, rfl⟩
  have B0 : Below w.heap.size w W0 := by rw [hW0]; exact below1 _ _
  have r0 := held4 (W := W0) (v := .int .i64 y) (a := ⟨w.heap.size, 0, none⟩) (by rw [hW0]; simp [go_sem])
  have r1 := held4 (W := W0) (v := .int .i64 m) (a := ⟨w.heap.size, 1, none⟩) (by rw [hW0]; simp [go_sem])
  have r2 := held4 (W := W0) (v := .int .i64 d) (a := ⟨w.heap.size, 2, none⟩) (by rw [hW0]; simp [go_sem])
  have r3 := held4 (W := W0) (v := .int .i64 H) (a := ⟨w.heap.size, 3, none⟩) (by rw [hW0]; simp [go_sem])
  have r4 := held4 (W := W0) (v := .int .i64 M) (a := ⟨w.heap.size, 4, none⟩) (by rw [hW0]; simp [go_sem])
  have r5 := held4 (W := W0) (v := .int .i64 S) (a := ⟨w.heap.size, 5, none⟩) (by rw [hW0]; simp [go_sem])
  have r6 := held4 (W := W0) (v := .int .i64 X) (a := ⟨w.heap.size, 6, none⟩) (by rw [hW0]; simp [go_sem])
  have HW := hide hW0
  clear hW0
  have hyd := ydZ_bd y m d
  obtain ⟨D, hD⟩ : ∃ D, ydZ y m d = D := ⟨_, rfl⟩
  rw [hD] at hyd
  cases hv : validB y m d
  · rw [rB_not (by rw [hv]; simp)]
    have hz : D = 0 := hyd.2.2.2 hv
    subst hz
    clear hyd
    go_enter Tryd.func25, Tryd.ntmps25
    go_wp2_with fail
    rw [← unhide HW]
    refine (ryearday_any _ _ _ _).mono ?_
    rintro e w5 ⟨rfl, hk5⟩
    go_wp2_with fail
    go_ret
    exact ⟨rfl, B0.trans (Below.mono (B := W0.heap.size) (by assumption) B0.size)⟩
  · have k0 : decide (0 < D) = true := decide_eq_true (by
      have : ¬ D = 0 := fun e => by rw [hyd.2.2.1 e] at hv; cases hv
      omega)
    clear hyd
    have key : rB y m d H M S X = (decide (0 ≤ H) && decide (H ≤ 23) && decide (0 ≤ M) && decide (M ≤ 59) && decide (0 ≤ S) && decide (S ≤ 59) && decide (0 ≤ X) && decide (X ≤ 999999999)) := by
      unfold rB; rw [hv, Bool.true_and]
    rw [key]
    clear key hv
    cases d1 : decide (0 ≤ H)
    · go_enter Tryd.func25, Tryd.ntmps25
      go_wp2_with fail
      rw [← unhide HW]
      refine (ryearday_any _ _ _ _).mono ?_
      rintro e w5 ⟨rfl, hk5⟩
      go_wp2_with fail
      go_ret
      exact ⟨rfl, B0.trans (Below.mono (B := W0.heap.size) (by assumption) B0.size)⟩
    cases d2 : decide (H ≤ 23)
    · go_enter Tryd.func25, Tryd.ntmps25
      go_wp2_with fail
      rw [← unhide HW]
      refine (ryearday_any _ _ _ _).mono ?_
      rintro e w5 ⟨rfl, hk5⟩
      go_wp2_with fail
      go_ret
      exact ⟨rfl, B0.trans (Below.mono (B := W0.heap.size) (by assumption) B0.size)⟩
    cases d3 : decide (0 ≤ M)
    · go_enter Tryd.func25, Tryd.ntmps25
      go_wp2_with fail
      rw [← unhide HW]
      refine (ryearday_any _ _ _ _).mono ?_
      rintro e w5 ⟨rfl, hk5⟩
      go_wp2_with fail
      go_ret
      exact ⟨rfl, B0.trans (Below.mono (B := W0.heap.size) (by assumption) B0.size)⟩
    cases d4 : decide (M ≤ 59)
    · go_enter Tryd.func25, Tryd.ntmps25
      go_wp2_with fail
      rw [← unhide HW]
      refine (ryearday_any _ _ _ _).mono ?_
      rintro e w5 ⟨rfl, hk5⟩
      go_wp2_with fail
      go_ret
      exact ⟨rfl, B0.trans (Below.mono (B := W0.heap.size) (by assumption) B0.size)⟩
    cases d5 : decide (0 ≤ S)
    · go_enter Tryd.func25, Tryd.ntmps25
      go_wp2_with fail
      rw [← unhide HW]
      refine (ryearday_any _ _ _ _).mono ?_
      rintro e w5 ⟨rfl, hk5⟩
      go_wp2_with fail
      go_ret
      exact ⟨rfl, B0.trans (Below.mono (B := W0.heap.size) (by assumption) B0.size)⟩
    cases d6 : decide (S ≤ 59)
    · go_enter Tryd.func25, Tryd.ntmps25
      go_wp2_with fail
      rw [← unhide HW]
      refine (ryearday_any _ _ _ _).mono ?_
      rintro e w5 ⟨rfl, hk5⟩
      go_wp2_with fail
      go_ret
      exact ⟨rfl, B0.trans (Below.mono (B := W0.heap.size) (by assumption) B0.size)⟩
    cases d7 : decide (0 ≤ X)
    · go_enter Tryd.func25, Tryd.ntmps25
      go_wp2_with fail
      rw [← unhide HW]
      refine (ryearday_any _ _ _ _).mono ?_
      rintro e w5 ⟨rfl, hk5⟩
      go_wp2_with fail
      go_ret
      exact ⟨rfl, B0.trans (Below.mono (B := W0.heap.size) (by assumption) B0.size)⟩
    cases d8 : decide (X ≤ 999999999)
    · go_enter Tryd.func25, Tryd.ntmps25
      go_wp2_with fail
      rw [← unhide HW]
      refine (ryearday_any _ _ _ _).mono ?_
      rintro e w5 ⟨rfl, hk5⟩
      go_wp2_with fail
      go_ret
      exact ⟨rfl, B0.trans (Below.mono (B := W0.heap.size) (by assumption) B0.size)⟩
    go_enter Tryd.func25, Tryd.ntmps25
    go_wp2_with fail
    rw [← unhide HW]
    refine (ryearday_any _ _ _ _).mono ?_
    rintro e w5 ⟨rfl, hk5⟩
    go_wp2_with fail
    go_ret
    exact ⟨rfl, B0.trans (Below.mono (B := W0.heap.size) (by assumption) B0.size)⟩
end Go.Proofs.YtjngnmpjkiafpaaDoor
