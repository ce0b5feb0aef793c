import Derived.Test.YtbmfnpgopafbkaaSc2
import Derived.Test.YtbmfnpgopafbkaaSc3
namespace Go.Proofs.Ytbmfnpgopafbkaa
open Go.RowKit Kt

set_option maxHeartbeats 400000 in
theorem lright_any (F S : Int) (w : World) :
    Calls Try.prog 22 #[.agg #[.int .i64 F, .int .i64 S]] w fun e w' => e = .returned (.bool (sclB F S)) ∧ Below w.heap.size w w' := by
  have hs : sclB F S = (decide (0 < F) && decide (F < 4294967296) && decide (0 ≤ S) && decide (S ≤ 32)) := by
    unfold sclB
    congr 3
    exact decide_eq_decide.2 (by omega)
  rw [hs]
  have hb0 : Below w.heap.size w (w.alloc (.cells #[.int .i64 F, .int .i64 S] 32)) := (Below.refl _ _).alloc (Nat.le_refl _) _
  cases d1 : decide (0 < F) <;> cases d2 : decide (F < 4294967296) <;> cases d3 : decide (0 ≤ S) <;> cases d4 : decide (S ≤ 32)
  all_goals
    go_enter Try.func22, Try.ntmps22
    go_wp2
    go_ret
    exact ⟨rfl, hb0⟩

/-- A cell that lies, in whatever world has come of it. -/
theorem held4 {W : World} {a : Addr} {v : Value} (hv : W.cell? a = some v) : ∀ w', Below W.heap.size W w' → w'.cell? a = some v := fun _ hb => cell_later hb hv
theorem top_1000 : topShift 1000 32 = 12 := by decide
theorem fac_1000 : facZ 1000 12 = 4096000000 := by decide
set_option maxRecDepth 1000000 in
set_option maxHeartbeats 2000000 in
theorem fixed4_any (w : World) :
    Calls Try.prog 19 #[] w fun e w' => e = .returned (.bool true) ∧ Below w.heap.size w w' := by
  have cm := fun w => smake_yes 1000 w (by omega) (by omega)
  rw [top_1000, fac_1000] at cm
  have cn := fun w => smake_no 0 w (by decide)
  have e1 : sclB 4096000000 12 = true := by decide
  have e2 : nanosZ 4096000000 12 1 = 1000000 := by decide
  have e3 : cycZ 4096000000 12 1000001 = 2 := by decide
  have e4 : nanosZ 0 0 5 = 0 := by decide
  have e5 : nanosZ 3 1 5 = 7 := by decide
  have e6 : errZ 4096000000 12 1000 = 0 := by decide
  have CM := hide cm
  have CN := hide cn
  clear cm cn
  go_enter Try.func19, Try.ntmps19
  go_wp2_with (go_at_call 25; refine Hid.out ?_)
  refine hide ?_
  refine (unhide CM _).mono ?_
  rintro e w1 ⟨rfl, hb1⟩
  have B1 := hb1.alloc (by have := hb1.size; omega) (.cells #[.int .i64 4096000000, .int .i64 12] 32)
  go_wp2_with (go_at_call 25; refine Hid.out ?_)
  refine hide ?_
  refine (unhide CN _).mono ?_
  rintro e w2 ⟨rfl, hb2⟩
  have B2 := B1.trans (hb2.mono (by simp; have := hb1.size; omega))
  have z2 : w1.heap.size < w2.heap.size := by have := hb2.size; simp at this; omega
  have c0 : w2.cell? ⟨w1.heap.size, 0, none⟩ = some (.int .i64 4096000000) := by rw [hb2.cell (p := ⟨w1.heap.size, 0, none⟩) (by simp)]; simp [go_sem]
  have c1 : w2.cell? ⟨w1.heap.size, 1, none⟩ = some (.int .i64 12) := by rw [hb2.cell (p := ⟨w1.heap.size, 1, none⟩) (by simp)]; simp [go_sem]
  clear hb2
  obtain ⟨W0, hW0⟩ : ∃ W0, W0 = w2.alloc (.cells #[.int .i64 0, .int .i64 0] 32) := ⟨_, rfl⟩
  have B3 : Below w.heap.size w W0 := by rw [hW0]; exact B2.alloc (by have := B2.size; omega) _
  have r0 := held4 (W := W0) (v := .int .i64 4096000000) (a := ⟨w1.heap.size, 0, none⟩) (by rw [hW0, World.cell?_alloc_past _ _ _ z2]; exact c0)
  have r1 := held4 (W := W0) (v := .int .i64 12) (a := ⟨w1.heap.size, 1, none⟩) (by rw [hW0, World.cell?_alloc_past _ _ _ z2]; exact c1)
  have S0 := Below.refl W0.heap.size W0
  have HW := hide hW0
  clear hW0
  go_wp2_with (go_at_call 21; refine Hid.out ?_)
  refine hide ?_
  rw [← unhide HW]
  refine (scright_any _ _ _).mono ?_
  rintro e w3 ⟨rfl, S3⟩
  clear c0 c1 z2
  go_wp2_with (first | (go_at_call 20; refine (snanos_any _ _ _ _).mono ?_; rintro e w4 ⟨rfl, hb4⟩; have hk4 := Below.trans (by assumption) (hb4.mono (Below.size (by assumption)))) | (go_at_call 23; refine (scycles_any _ _ _ _).mono ?_; rintro e w4 ⟨rfl, hb4⟩; have hk4 := Below.trans (by assumption) (hb4.mono (Below.size (by assumption)))) | (go_at_call 26; refine (serror_any _ _ _ _).mono ?_; rintro e w4 ⟨rfl, hb4⟩; have hk4 := Below.trans (by assumption) (hb4.mono (Below.size (by assumption)))))
  go_ret
  exact ⟨rfl, B3.trans (hk4.mono B3.size)⟩
end Go.Proofs.Ytbmfnpgopafbkaa
