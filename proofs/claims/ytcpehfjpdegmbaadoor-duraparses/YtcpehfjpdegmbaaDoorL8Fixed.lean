import Derived.Test.YtcpehfjpdegmbaaDoorDu8
namespace Go.Proofs.YtcpehfjpdegmbaaDoor
open Go.RowKit Kt Dg Du

theorem fx_p1 (w : World) (hw : DTab w) : Calls Tryd.prog 10 #[.string (⟨#[49, 109, 51, 48, 115]⟩ : ByteArray)] w fun e w' => e = .returned (.tuple #[.int .i64 90000000000, .bool true]) ∧ Below w.heap.size w w' := by
  have := parse_any [49, 109, 51, 48, 115] w hw (by decide)
  rw [show parseZ [49, 109, 51, 48, 115] = (90000000000, true) from by decide +kernel] at this
  exact this
theorem fx_p2 (w : World) (hw : DTab w) : Calls Tryd.prog 10 #[.string (⟨#[51, 48, 115, 49, 109]⟩ : ByteArray)] w fun e w' => e = .returned (.tuple #[.int .i64 0, .bool false]) ∧ Below w.heap.size w w' := by
  have := parse_any [51, 48, 115, 49, 109] w hw (by decide)
  rw [show parseZ [51, 48, 115, 49, 109] = (0, false) from by decide +kernel] at this
  exact this
theorem fx_p3 (w : World) (hw : DTab w) : Calls Tryd.prog 10 #[.string (⟨#[45, 50, 104, 53, 110, 115]⟩ : ByteArray)] w fun e w' => e = .returned (.tuple #[.int .i64 (-7200000000005), .bool true]) ∧ Below w.heap.size w w' := by
  have := parse_any [45, 50, 104, 53, 110, 115] w hw (by decide)
  rw [show parseZ [45, 50, 104, 53, 110, 115] = (-7200000000005, true) from by decide +kernel] at this
  exact this
theorem fx_t1 (w : World) (hw : DTab w) : Calls Tryd.prog 8 #[.int .i64 90000000000] w fun e w' => e = .returned (.string (⟨#[49, 109, 51, 48, 115]⟩ : ByteArray)) ∧ Below w.heap.size w w' := by
  have := text_any 90000000000 w hw
  rw [show textZ 90000000000 = [49, 109, 51, 48, 115] from by decide +kernel] at this
  exact this
theorem fx_t2 (w : World) (hw : DTab w) : Calls Tryd.prog 8 #[.int .i64 0] w fun e w' => e = .returned (.string ⟨#[48, 115]⟩) ∧ Below w.heap.size w w' := by
  have := text_any 0 w hw
  rw [show textZ 0 = [48, 115] from by decide +kernel] at this
  exact this
theorem fx_t3 (w : World) (hw : DTab w) : Calls Tryd.prog 8 #[.int .i64 4611686018427387903] w fun e w' => e = .returned (.string ⟨#[110, 101, 118, 101, 114]⟩) ∧ Below w.heap.size w w' := by
  have := text_any 4611686018427387903 w hw
  rw [show textZ 4611686018427387903 = [110, 101, 118, 101, 114] from by decide +kernel] at this
  exact this
theorem fx_r1 (w : World) : Calls Tryd.prog 14 #[.int .i64 7, .int .i64 5] w fun e w' => e = .returned (.int .i64 5) ∧ w' = w := by
  have := round_any 7 5 w
  rw [show roundZ 7 5 = 5 from by decide +kernel] at this
  exact this
theorem fx_r2 (w : World) : Calls Tryd.prog 14 #[.int .i64 8, .int .i64 5] w fun e w' => e = .returned (.int .i64 10) ∧ w' = w := by
  have := round_any 8 5 w
  rw [show roundZ 8 5 = 10 from by decide +kernel] at this
  exact this
theorem fx_f1 (w : World) : Calls Tryd.prog 13 #[.int .i64 (-1), .int .i64 5] w fun e w' => e = .returned (.int .i64 (-5)) ∧ w' = w := by
  have := floor_any (-1) 5 w
  rw [show floorZ (-1) 5 = -5 from by decide +kernel] at this
  exact this
theorem fx_pt (w : World) : Calls Tryd.prog 15 #[.int .i64 90000000000] w fun e w' => e = .returned (.agg #[.int .i64 0, .int .i64 0, .int .i64 1, .int .i64 30, .int .i64 0, .int .i64 0, .int .i64 0]) ∧ Below w.heap.size w w' := by
  have := parts_any 90000000000 w
  rw [show sizeZ 90000000000 = 90000000000 from by decide +kernel] at this
  exact this

set_option maxRecDepth 1000000 in
set_option maxHeartbeats 4000000 in
theorem fixed8 (w : World) (hw : DTab w) :
    Calls Tryd.prog 7 #[] w fun e w' => e = .returned (.bool true) ∧ Below w.heap.size w w' := by
  have S0 := Below.refl w.heap.size w
  have HT : ∀ w', Below w.heap.size w w' → DTab w' := fun w' h => hw.on h
  have i1 : ∀ w : World, (Instr.index 31 (.agg #[.int .i64 0, .int .i64 0, .int .i64 1, .int .i64 30, .int .i64 0, .int .i64 0, .int .i64 0]) (.int .i64 2)).run Tryd.prog w = .ok (.int .i64 1) w := fun _ => by kernel_rfl
  have i2 : ∀ w : World, (Instr.index 31 unitsV (.int .i64 6)).run Tryd.prog w = .ok (.int .i64 1) w := fun _ => by kernel_rfl
  have CU := fun w' => hide (units_any w')
  generalize unitsV = UV at *
  go_enter Tryd.func7, Tryd.ntmps7
  go_wp2_with (first
    | (go_at_call 10; with_reducible refine (fx_p1 _ (HT _ (by assumption))).mono ?_; rintro e w4 ⟨rfl, hb4⟩; have hk4 := Below.trans (by assumption) (hb4.mono (Below.size (by assumption))))
    | (go_at_call 10; with_reducible refine (fx_p2 _ (HT _ (by assumption))).mono ?_; rintro e w4 ⟨rfl, hb4⟩; have hk4 := Below.trans (by assumption) (hb4.mono (Below.size (by assumption))))
    | (go_at_call 10; with_reducible refine (fx_p3 _ (HT _ (by assumption))).mono ?_; rintro e w4 ⟨rfl, hb4⟩; have hk4 := Below.trans (by assumption) (hb4.mono (Below.size (by assumption))))
    | (go_at_call 8; with_reducible refine (fx_t1 _ (HT _ (by assumption))).mono ?_; rintro e w4 ⟨rfl, hb4⟩; have hk4 := Below.trans (by assumption) (hb4.mono (Below.size (by assumption))))
    | (go_at_call 8; with_reducible refine (fx_t2 _ (HT _ (by assumption))).mono ?_; rintro e w4 ⟨rfl, hb4⟩; have hk4 := Below.trans (by assumption) (hb4.mono (Below.size (by assumption))))
    | (go_at_call 8; with_reducible refine (fx_t3 _ (HT _ (by assumption))).mono ?_; rintro e w4 ⟨rfl, hb4⟩; have hk4 := Below.trans (by assumption) (hb4.mono (Below.size (by assumption))))
    | (go_at_call 14; with_reducible refine (fx_r1 _).mono ?_; rintro e w' ⟨rfl, rfl⟩)
    | (go_at_call 14; with_reducible refine (fx_r2 _).mono ?_; rintro e w' ⟨rfl, rfl⟩)
    | (go_at_call 13; with_reducible refine (fx_f1 _).mono ?_; rintro e w' ⟨rfl, rfl⟩)
    | (go_at_call 15; refine (fx_pt _).mono ?_; rintro e w4 ⟨rfl, hb4⟩; have hk4 := Below.trans (by assumption) (hb4.mono (Below.size (by assumption))))
    | (go_at_call 16; refine (unhide (CU _)).mono ?_; rintro e w4 ⟨rfl, hb4⟩; have hk4 := Below.trans (by assumption) (hb4.mono (Below.size (by assumption)))))
  go_ret
  exact ⟨rfl, by assumption⟩
end Go.Proofs.YtcpehfjpdegmbaaDoor
