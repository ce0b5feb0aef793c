import Derived.Test.YtihahbmmipnclaaDoorSpMath
import Derived.Deep.RegionHeld3
namespace Go.Proofs.YtihahbmmipnclaaDoor
open Go.RowKit Kt Dg

theorem text_one : textS 1 5 = ⟨#[49, 46, 48, 48, 48, 48, 48, 48, 48, 48, 53]⟩ := by
  show (⟨(Lib.decDigits 1 ++ 46 :: padTo 9 5).toArray⟩ : ByteArray) = _
  rw [Lib.decDigits_one (by decide)]
  rfl
theorem parse_one (w : World) (hw : Bnd w) : Calls Tryd.prog 14 #[.string ⟨#[49, 46, 48, 48, 48, 48, 48, 48, 48, 48, 53]⟩] w fun e w' => e = .returned (.tuple #[.agg #[.int .i64 1, .int .i64 5], .bool true]) ∧ Below w.heap.size w w' := by
  obtain ⟨a, b, p, ha, hb⟩ := parts_text 1 5 (by omega) (by omega) (by omega) (by omega)
  rw [text_one] at p
  have := sparse_parts _ a b w hw (by decide) p
  rw [ha, hb] at this
  exact this
theorem time_one (w : World) : Calls Tryd.prog 7 #[.agg #[.int .i64 1, .int .i64 5]] w fun e w' => e = .returned (.tuple #[.int .i64 1000000005, .int .i64 0]) ∧ Below w.heap.size w w' := by
  have := stime_good 1 5 w (by decide) (by omega)
  rw [show timeZ 1 5 = 1000000005 from by decide] at this
  exact this
theorem add_one (w : World) : Calls Tryd.prog 18 #[.agg #[.int .i64 1, .int .i64 5], .agg #[.int .i64 0, .int .i64 999999999]] w fun e w' => e = .returned (.tuple #[.agg #[.int .i64 2, .int .i64 4], .int .i64 0]) ∧ Below w.heap.size w w' := by
  have := sadd_good 1 5 0 999999999 w (by decide) (by decide) (by omega) (by omega) (by decide)
  exact this
theorem of_one (w : World) : Calls Tryd.prog 11 #[.int .i64 1000000005] w fun e w' => e = .returned (.agg #[.int .i64 1, .int .i64 5]) ∧ Below w.heap.size w w' := by
  have := sof_any 1000000005 w
  rw [show ofZ 1000000005 = 1000000005 from by decide] at this
  exact this

theorem micro_one (w : World) : Calls Tryd.prog 17 #[.int .i64 2, .int .i64 7] w fun e w' => e = .returned (.tuple #[.agg #[.int .i64 2, .int .i64 7000], .int .i64 0]) ∧ Below w.heap.size w w' :=
  smicro_good 2 7 w (by omega) (by omega) (by omega)
theorem less_one (w : World) : Calls Tryd.prog 16 #[.agg #[.int .i64 1, .int .i64 5], .agg #[.int .i64 2, .int .i64 4]] w fun e w' => e = .returned (.bool true) ∧ Below w.heap.size w w' :=
  sless_any 1 5 2 4 w

set_option maxRecDepth 1000000 in
set_option maxHeartbeats 2000000 in
theorem fixed_any (w : World) (ht : Tab w) (hw : Bnd w) :
    Calls Tryd.prog 6 #[] w fun e w' => e = .returned (.bool true) ∧ Below w.heap.size w w' := by
  have hb0 : Below w.heap.size w (w.alloc (.cells #[.int .i64 1, .int .i64 5] 23)) := (Below.refl _ _).alloc (Nat.le_refl _) _
  go_enter Tryd.func6, Tryd.ntmps6
  go_wp2_with (go_at_call 7; refine Hid.out ?_)
  refine hide ?_
  refine (time_one _).mono ?_
  rintro e w1 ⟨rfl, hb1⟩
  have B1 := hb0.trans (hb1.mono (by simp))
  have z1 : w.heap.size < w1.heap.size := by have := hb1.size; simp at this; omega
  have c0 : w1.cell? ⟨w.heap.size, 0, none⟩ = some (.int .i64 1) := by rw [(bcell hb1).1 _ _ (by simp)]; simp [go_sem]
  have c1 : w1.cell? ⟨w.heap.size, 1, none⟩ = some (.int .i64 5) := by rw [(bcell hb1).1 _ _ (by simp)]; simp [go_sem]
  clear hb1
  go_wp2_with (go_at_call 12; refine Hid.out ?_)
  refine hide ?_
  refine (stext_good 1 5 _ (ht.on B1) (by decide) (by omega)).mono ?_
  rw [text_one]
  rintro e w2 ⟨rfl, hb2⟩
  have B2 := B1.trans (hb2.mono (by omega))
  have z2 : w.heap.size < w2.heap.size := by have := hb2.size; omega
  replace c0 : w2.cell? ⟨w.heap.size, 0, none⟩ = some (.int .i64 1) := by rw [(bcell hb2).1 _ _ z1]; exact c0
  replace c1 : w2.cell? ⟨w.heap.size, 1, none⟩ = some (.int .i64 5) := by rw [(bcell hb2).1 _ _ z1]; exact c1
  clear hb2 z1
  go_wp2_with (go_at_call 14; refine Hid.out ?_)
  refine hide ?_
  refine (parse_one _ (hw.on B2)).mono ?_
  rintro e w3 ⟨rfl, hb3⟩
  have B3 := B2.trans (hb3.mono (by omega))
  have z3 : w.heap.size < w3.heap.size := by have := hb3.size; omega
  replace c0 : w3.cell? ⟨w.heap.size, 0, none⟩ = some (.int .i64 1) := by rw [(bcell hb3).1 _ _ z2]; exact c0
  replace c1 : w3.cell? ⟨w.heap.size, 1, none⟩ = some (.int .i64 5) := by rw [(bcell hb3).1 _ _ z2]; exact c1
  clear hb3 z2
  go_wp2_with (go_at_call 17; refine Hid.out ?_)
  refine hide ?_
  refine (micro_one _).mono ?_
  rintro e w4 ⟨rfl, hb4⟩
  have k4 := (bcell hb4).1
  have B4 := (B3.alloc (by omega) (.cells #[.int .i64 1, .int .i64 5] 23)).trans (hb4.mono (by simp; omega))
  have z4 : w.heap.size < w4.heap.size := by have := hb4.size; simp at this; omega
  have y4 : w3.heap.size < w4.heap.size := by have := hb4.size; simp at this; omega
  have d0 : w4.cell? ⟨w.heap.size, 0, none⟩ = some (.int .i64 1) := by rw [k4 _ _ (by simp; omega), World.cell?_alloc_past _ _ _ z3]; exact c0
  have d1 : w4.cell? ⟨w.heap.size, 1, none⟩ = some (.int .i64 5) := by rw [k4 _ _ (by simp; omega), World.cell?_alloc_past _ _ _ z3]; exact c1
  have d2 : w4.cell? ⟨w3.heap.size, 0, none⟩ = some (.int .i64 1) := by rw [k4 _ _ (by simp)]; simp [go_sem]
  have d3 : w4.cell? ⟨w3.heap.size, 1, none⟩ = some (.int .i64 5) := by rw [k4 _ _ (by simp)]; simp [go_sem]
  clear hb4 k4 c0 c1 z3
  go_wp2_with (go_at_call 18; refine Hid.out ?_)
  refine hide ?_
  refine (add_one _).mono ?_
  rintro e w5 ⟨rfl, hb5⟩
  have k5 := (bcell hb5).1
  have B5 := (B4.alloc (by omega) (.cells #[.int .i64 2, .int .i64 7000] 23)).trans (hb5.mono (by simp; omega))
  have z5 : w4.heap.size < w5.heap.size := by have := hb5.size; simp at this; omega
  have f0 : w5.cell? ⟨w.heap.size, 0, none⟩ = some (.int .i64 1) := by rw [k5 _ _ (by simp; omega), World.cell?_alloc_past _ _ _ z4]; exact d0
  have f1 : w5.cell? ⟨w.heap.size, 1, none⟩ = some (.int .i64 5) := by rw [k5 _ _ (by simp; omega), World.cell?_alloc_past _ _ _ z4]; exact d1
  have f2 : w5.cell? ⟨w3.heap.size, 0, none⟩ = some (.int .i64 1) := by rw [k5 _ _ (by simp; omega), World.cell?_alloc_past _ _ _ y4]; exact d2
  have f3 : w5.cell? ⟨w3.heap.size, 1, none⟩ = some (.int .i64 5) := by rw [k5 _ _ (by simp; omega), World.cell?_alloc_past _ _ _ y4]; exact d3
  have f4 : w5.cell? ⟨w4.heap.size, 0, none⟩ = some (.int .i64 2) := by rw [k5 _ _ (by simp)]; simp [go_sem]
  have f5 : w5.cell? ⟨w4.heap.size, 1, none⟩ = some (.int .i64 7000) := by rw [k5 _ _ (by simp)]; simp [go_sem]
  clear hb5 k5 d0 d1 d2 d3
  go_wp2_with (go_at_call 7; refine Hid.out ?_)
  refine hide ?_
  refine (stime_bad 0 (-1) _ (by decide)).mono ?_
  rintro e w6 ⟨rfl, hb6⟩
  have k6 := (bcell hb6).1
  have B6 := (B5.alloc (by omega) (.cells #[.int .i64 2, .int .i64 4] 23)).trans (hb6.mono (by simp; omega))
  have q1 : w.heap.size < w5.heap.size := by omega
  have q3 : w3.heap.size < w5.heap.size := by omega
  have q5 : w5.heap.size < w6.heap.size := by have := hb6.size; simp at this; omega
  have g0 : w6.cell? ⟨w.heap.size, 0, none⟩ = some (.int .i64 1) := by rw [k6 _ _ (by simp; omega), World.cell?_alloc_past _ _ _ q1]; exact f0
  have g1 : w6.cell? ⟨w.heap.size, 1, none⟩ = some (.int .i64 5) := by rw [k6 _ _ (by simp; omega), World.cell?_alloc_past _ _ _ q1]; exact f1
  have g2 : w6.cell? ⟨w3.heap.size, 0, none⟩ = some (.int .i64 1) := by rw [k6 _ _ (by simp; omega), World.cell?_alloc_past _ _ _ q3]; exact f2
  have g3 : w6.cell? ⟨w3.heap.size, 1, none⟩ = some (.int .i64 5) := by rw [k6 _ _ (by simp; omega), World.cell?_alloc_past _ _ _ q3]; exact f3
  have g4 : w6.cell? ⟨w4.heap.size, 0, none⟩ = some (.int .i64 2) := by rw [k6 _ _ (by simp; omega), World.cell?_alloc_past _ _ _ z5]; exact f4
  have g5 : w6.cell? ⟨w4.heap.size, 1, none⟩ = some (.int .i64 7000) := by rw [k6 _ _ (by simp; omega), World.cell?_alloc_past _ _ _ z5]; exact f5
  have g6 : w6.cell? ⟨w5.heap.size, 0, none⟩ = some (.int .i64 2) := by rw [k6 _ _ (by simp)]; simp [go_sem]
  have g7 : w6.cell? ⟨w5.heap.size, 1, none⟩ = some (.int .i64 4) := by rw [k6 _ _ (by simp)]; simp [go_sem]
  clear hb6 k6 f0 f1 f2 f3 f4 f5
  go_wp2_with fail
  have L : ∀ {b o : Nat} {v : Value}, w6.cell? ⟨b, o, none⟩ = some v → b < w6.heap.size → ∀ w', Below w6.heap.size w6 w' → w'.cell? ⟨b, o, none⟩ = some v := by
    intro b o v hv hlt w' hb
    rw [(bcell hb).1 _ _ hlt]; exact hv
  have r0 := L g0 (by omega)
  have r1 := L g1 (by omega)
  have r2 := L g2 (by omega)
  have r3 := L g3 (by omega)
  have r4 := L g4 (by omega)
  have r5 := L g5 (by omega)
  have r6 := L g6 (by omega)
  have r7 := L g7 (by omega)
  clear L g0 g1 g2 g3 g4 g5 g6 g7
  go_region_held3 (fun w' => Below w6.heap.size w6 w') (first | exact (Below.refl _ _).drew | assumption) (first | (go_at_call 11; refine (of_one _).mono ?_; rintro e w7 ⟨rfl, hb7⟩; have hk7 := Below.trans (by assumption) (hb7.mono (Below.size (by assumption)))) | (go_at_call 16; refine (less_one _).mono ?_; rintro e w8 ⟨rfl, hb8⟩; have hk8 := Below.trans (by assumption) (hb8.mono (Below.size (by assumption)))))
  all_goals
    go_wp2_with fail
    go_ret
    exact ⟨rfl, B6.trans (Below.mono (B := w6.heap.size) (by assumption) B6.size)⟩
end Go.Proofs.YtihahbmmipnclaaDoor
