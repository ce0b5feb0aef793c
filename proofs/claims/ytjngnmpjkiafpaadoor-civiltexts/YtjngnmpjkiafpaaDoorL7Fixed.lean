import Derived.Test.YtjngnmpjkiafpaaDoorCvTx6
namespace Go.Proofs.YtjngnmpjkiafpaaDoor
open Go.RowKit Cv Dg

theorem fx_number (w : World) (hw : CTab w) : Calls Tryd.prog 14 #[.int .i64 2000, .int .i64 3, .int .i64 1] w fun e w' => e = .returned (.tuple #[.int .i64 11017, .bool true]) ∧ w' = w := by
  have := number_any 2000 3 1 w hw
  rw [show numD 2000 3 1 = 11017 from by decide +kernel, show validB 2000 3 1 = true from by decide +kernel] at this
  exact this
theorem fx_number2 (w : World) (hw : CTab w) : Calls Tryd.prog 14 #[.int .i64 1900, .int .i64 2, .int .i64 29] w fun e w' => e = .returned (.tuple #[.int .i64 0, .bool false]) ∧ w' = w := by
  have := number_any 1900 2 29 w hw
  rw [show numD 1900 2 29 = 0 from by decide +kernel, show validB 1900 2 29 = false from by decide +kernel] at this
  exact this
theorem fx_day (w : World) : Calls Tryd.prog 18 #[.int .i64 11017] w fun e w' => e = .returned (.tuple #[.int .i64 2000, .int .i64 3, .int .i64 1, .bool true]) ∧ w' = w := by
  have := day_any 11017 w
  rw [show dY 11017 = 2000 from by decide +kernel, show dM 11017 = 3 from by decide +kernel, show dD 11017 = 1 from by decide +kernel, show withinB 11017 = true from by decide +kernel] at this
  exact this
theorem fx_week (w : World) (hw : CTab w) : Calls Tryd.prog 22 #[.int .i64 0] w fun e w' => e = .returned (.tuple #[.int .i64 1970, .int .i64 1, .bool true]) ∧ w' = w := by
  have := week_any 0 w hw
  rw [show weekY 0 = 1970 from by decide +kernel, show weekW 0 = 1 from by decide +kernel, show weekOk 0 = true from by decide +kernel] at this
  exact this
theorem fx_text (w : World) (hw : CTab w) : Calls Tryd.prog 23 #[.agg #[.int .i64 1970, .int .i64 1, .int .i64 1, .int .i64 0, .int .i64 0, .int .i64 0, .int .i64 5]] w fun e w' => e = .returned (.tuple #[.string (⟨#[49, 57, 55, 48, 45, 48, 49, 45, 48, 49, 84, 48, 48, 58, 48, 48, 58, 48, 48, 46, 48, 48, 48, 48, 48, 48, 48, 48, 53]⟩ : ByteArray), .bool true]) ∧ Below w.heap.size w w' := by
  have := text_good 1970 1 1 0 0 0 5 w hw (by decide +kernel)
  rw [show textS 1970 1 1 0 0 0 5 = (⟨#[49, 57, 55, 48, 45, 48, 49, 45, 48, 49, 84, 48, 48, 58, 48, 48, 58, 48, 48, 46, 48, 48, 48, 48, 48, 48, 48, 48, 53]⟩ : ByteArray) from rfl] at this
  exact this
theorem fx_parse (w : World) (hw : CTab w) : Calls Tryd.prog 27 #[.string (⟨#[49, 57, 55, 48, 45, 48, 49, 45, 48, 49, 84, 48, 48, 58, 48, 48, 58, 48, 48, 46, 48, 48, 48, 48, 48, 48, 48, 48, 53]⟩ : ByteArray)] w fun e w' => e = .returned (.tuple #[.agg #[.int .i64 1970, .int .i64 1, .int .i64 1, .int .i64 0, .int .i64 0, .int .i64 0, .int .i64 5], .bool true]) ∧ Below w.heap.size w w' := by
  have h := parse_any (⟨#[49, 57, 55, 48, 45, 48, 49, 45, 48, 49, 84, 48, 48, 58, 48, 48, 58, 48, 48, 46, 48, 48, 48, 48, 48, 48, 48, 48, 53]⟩ : ByteArray) w hw
  have e : parseOk (⟨#[49, 57, 55, 48, 45, 48, 49, 45, 48, 49, 84, 48, 48, 58, 48, 48, 58, 48, 48, 46, 48, 48, 48, 48, 48, 48, 48, 48, 53]⟩ : ByteArray).data.toList = true := by decide +kernel
  have e2 : parseV (⟨#[49, 57, 55, 48, 45, 48, 49, 45, 48, 49, 84, 48, 48, 58, 48, 48, 58, 48, 48, 46, 48, 48, 48, 48, 48, 48, 48, 48, 53]⟩ : ByteArray).data.toList = .agg #[.int .i64 1970, .int .i64 1, .int .i64 1, .int .i64 0, .int .i64 0, .int .i64 0, .int .i64 5] := by
    unfold parseV
    rw [if_pos e]
    rfl
  rw [e, e2] at h
  exact h
theorem fx_wd (w : World) : Calls Tryd.prog 20 #[.int .i64 11017] w fun e w' => e = .returned (.int .i64 2) ∧ w' = w := wd_any 11017 w
theorem fx_long1 (w : World) : Calls Tryd.prog 10 #[.int .i64 2000] w fun e w' => e = .returned (.bool true) ∧ w' = w := long_any 2000 w
theorem fx_long2 (w : World) : Calls Tryd.prog 10 #[.int .i64 1900] w fun e w' => e = .returned (.bool false) ∧ w' = w := long_any 1900 w
theorem fx_days1 (w : World) (hw : CTab w) : Calls Tryd.prog 12 #[.int .i64 1, .int .i64 8] w fun e w' => e = .returned (.int .i64 31) ∧ w' = w := days_any 1 8 w hw
theorem fx_days2 (w : World) (hw : CTab w) : Calls Tryd.prog 12 #[.int .i64 0, .int .i64 1] w fun e w' => e = .returned (.int .i64 0) ∧ w' = w := days_any 0 1 w hw

set_option maxRecDepth 1000000 in
set_option maxHeartbeats 4000000 in
theorem fixed7 (w : World) (hw : CTab w) :
    Calls Tryd.prog 9 #[] w fun e w' => e = .returned (.bool true) ∧ Below w.heap.size w w' := by
  have CN := hide (fx_number w hw)
  have CW := hide (fx_week w hw)
  go_enter Tryd.func9, Tryd.ntmps9
  go_wp2_with (first
    | (go_at_call 14; with_reducible refine (unhide CN).mono ?_; rintro e w' ⟨rfl, rfl⟩)
    | (go_at_call 18; refine (fx_day _).mono ?_; rintro e w' ⟨rfl, rfl⟩)
    | (go_at_call 22; refine (unhide CW).mono ?_; rintro e w' ⟨rfl, rfl⟩)
    | (go_at_call 23; refine Hid.out ?_))
  refine hide ?_
  refine (fx_text _ hw).mono ?_
  rintro e w2 ⟨rfl, hb2⟩
  have hw2 := hw.on hb2
  have CN2 := hide (fx_number2 w2 hw2)
  go_wp2_with (first
    | (go_at_call 14; with_reducible refine (unhide CN2).mono ?_; rintro e w' ⟨rfl, rfl⟩)
    | (go_at_call 27; refine Hid.out ?_))
  refine hide ?_
  refine (fx_parse _ hw2).mono ?_
  rintro e w3 ⟨rfl, hb3⟩
  have S3 := hb2.trans (hb3.mono hb2.size)
  have S4 := S3.alloc S3.size (.cells #[.int .i64 1970, .int .i64 1, .int .i64 1, .int .i64 0, .int .i64 0, .int .i64 0, .int .i64 5] 35)
  have CD1 := hide (fx_days1 _ (hw.on S4))
  have CD2 := hide (fx_days2 _ (hw.on S4))
  go_wp2_with (first
    | (go_at_call 20; refine (fx_wd _).mono ?_; rintro e w' ⟨rfl, rfl⟩)
    | (go_at_call 10; with_reducible refine (fx_long1 _).mono ?_; rintro e w' ⟨rfl, rfl⟩)
    | (go_at_call 10; with_reducible refine (fx_long2 _).mono ?_; rintro e w' ⟨rfl, rfl⟩)
    | (go_at_call 12; with_reducible refine (unhide CD1).mono ?_; rintro e w' ⟨rfl, rfl⟩)
    | (go_at_call 12; with_reducible refine (unhide CD2).mono ?_; rintro e w' ⟨rfl, rfl⟩))
  go_ret
  exact ⟨rfl, S4⟩
end Go.Proofs.YtjngnmpjkiafpaaDoor
