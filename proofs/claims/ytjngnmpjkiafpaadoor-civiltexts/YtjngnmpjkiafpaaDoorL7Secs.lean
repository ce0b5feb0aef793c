import Derived.Test.YtjngnmpjkiafpaaDoorL7Laws2
namespace Go.Proofs.YtjngnmpjkiafpaaDoor
open Go.RowKit Cv Dg

theorem dateOk_iff (s n : Int) : dateOk s n = true ↔ 0 ≤ n ∧ n ≤ 999999999 ∧ -719162 * 86400 ≤ s ∧ s < 2932897 * 86400 := by
  simp only [dateOk, Bool.and_eq_true, decide_eq_true_eq, within_iff, sdZ]
  omega
theorem date_bad (s n : Int) (w : World) (h0 : -9223372036854775808 ≤ s) (h1 : s ≤ 9223372036854775807) (h : dateOk s n = false) :
    Calls Tryd.prog 28 #[.int .i64 s, .int .i64 n] w fun e w' => e = .returned (.tuple #[dateV 0 0 0 0 0 0 0, .bool false]) ∧ Below w.heap.size w w' := by
  have := date_any s n w h0 h1
  rw [h] at this
  exact this
theorem date_good (s n : Int) (w : World) (h0 : -9223372036854775808 ≤ s) (h1 : s ≤ 9223372036854775807) (h : dateOk s n = true) :
    Calls Tryd.prog 28 #[.int .i64 s, .int .i64 n] w fun e w' => e = .returned (.tuple #[dateOf s n, .bool true]) ∧ Below w.heap.size w w' := by
  have := date_any s n w h0 h1
  rw [h] at this
  exact this

set_option maxRecDepth 100000 in
set_option maxHeartbeats 4000000 in
theorem secs_bad (s n : Int) (w : World) (hw : CTab w) (h0 : -9223372036854775808 ≤ s) (h1 : s ≤ 9223372036854775807) (h : dateOk s n = false) :
    Calls Tryd.prog 7 #[.int .i64 s, .int .i64 n] w fun e w' => e = .returned (.bool true) ∧ Below w.heap.size w w' := by
  have CF := fun w' hw' => hide (fixed7 w' hw')
  have hc : ¬ (0 ≤ n ∧ n ≤ 999999999 ∧ -719162 * 86400 ≤ s ∧ s < 2932897 * 86400) := fun h' => by rw [(dateOk_iff s n).2 h'] at h; cases h
  have CD := fun w' => hide (date_bad s n w' h0 h1 h)
  clear h
  rcases (show n < 0 ∨ (0 ≤ n ∧ 999999999 < n) ∨ (0 ≤ n ∧ n ≤ 999999999 ∧ s < -719162 * 86400) ∨ (0 ≤ n ∧ n ≤ 999999999 ∧ -719162 * 86400 ≤ s ∧ 2932897 * 86400 ≤ s) by omega) with hc | hc | hc | hc
  all_goals
    go_enter Tryd.func7, Tryd.ntmps7
    go_wp2_with (first
      | (go_at_call 9; refine (unhide (CF _ hw)).mono ?_; rintro e w1 ⟨rfl, hb1⟩)
      | (go_at_call 28; refine (unhide (CD _)).mono ?_; rintro e w4 ⟨rfl, hb4⟩; have hk4 := Below.trans (by assumption) (hb4.mono (Below.size (by assumption))))
      | (go_at_call 19; with_reducible refine (rfirst_one _).mono ?_; rintro e w' ⟨rfl, rfl⟩)
      | (go_at_call 19; with_reducible refine (rfirst_end _).mono ?_; rintro e w' ⟨rfl, rfl⟩))
    go_ret
    exact ⟨rfl, Below.alloc (by assumption) (Below.size (by assumption)) _⟩

set_option maxRecDepth 100000 in
set_option maxHeartbeats 4000000 in
theorem secs_good (s n : Int) (w : World) (hw : CTab w) (h0 : -9223372036854775808 ≤ s) (h1 : s ≤ 9223372036854775807) (h : dateOk s n = true) :
    Calls Tryd.prog 7 #[.int .i64 s, .int .i64 n] w fun e w' => e = .returned (.bool true) ∧ Below w.heap.size w w' := by
  have CF := fun w' hw' => hide (fixed7 w' hw')
  have hc := (dateOk_iff s n).1 h
  have hc2 : s < 253402300800 := by omega
  have hc3 : -62135596800 ≤ s := by omega
  have CD := fun w' => hide (date_good s n w' h0 h1 h)
  have hin : -719162 ≤ sdZ s ∧ sdZ s ≤ 2932896 := by unfold sdZ; omega
  obtain ⟨hv, hn⟩ := day_num hin.1 hin.2
  have hr : rB (dayY (sdZ s)) (dayM (sdZ s)) (dayD (sdZ s)) (srZ s / 3600) (srZ s % 3600 / 60) (srZ s % 60) n = true := by
    rw [rB_iff]
    refine ⟨hv, ?_⟩
    unfold srZ
    omega
  have hs : sdZ s * 86400 + srZ s / 3600 * 3600 + srZ s % 3600 / 60 * 60 + srZ s % 60 = s := by unfold sdZ srZ; omega
  have hb : 0 ≤ srZ s / 3600 ∧ srZ s / 3600 ≤ 23 ∧ 0 ≤ srZ s % 3600 / 60 ∧ srZ s % 3600 / 60 ≤ 59 ∧ 0 ≤ srZ s % 60 ∧ srZ s % 60 ≤ 59 := by unfold srZ; omega
  unfold dateOf at CD
  have CN := fun w' => hide (rnumber_good (dayY (sdZ s)) (dayM (sdZ s)) (dayD (sdZ s)) w' hv)
  rw [hn] at CN
  obtain ⟨K, hK⟩ : ∃ K, sdZ s = K := ⟨_, rfl⟩
  obtain ⟨H, hH⟩ : ∃ K, srZ s / 3600 = K := ⟨_, rfl⟩
  obtain ⟨M, hM⟩ : ∃ K, srZ s % 3600 / 60 = K := ⟨_, rfl⟩
  obtain ⟨X, hX⟩ : ∃ K, srZ s % 60 = K := ⟨_, rfl⟩
  rw [hK] at CD CN hs hr hin
  rw [hH, hM, hX] at CD hs hb hr
  obtain ⟨y, hy⟩ : ∃ y, dayY K = y := ⟨_, rfl⟩
  obtain ⟨m, hm⟩ : ∃ y, dayM K = y := ⟨_, rfl⟩
  obtain ⟨d, hd⟩ : ∃ y, dayD K = y := ⟨_, rfl⟩
  rw [hy, hm, hd] at CD CN hr
  have CR := fun w' => hide (rright_any y m d H M X n w')
  rw [hr] at CR
  clear hy hm hd hK hH hM hX hv hn h hr
  go_enter Tryd.func7, Tryd.ntmps7
  go_wp2_with (first
    | (go_at_call 9; refine (unhide (CF _ hw)).mono ?_; rintro e w1 ⟨rfl, hb1⟩)
    | (go_at_call 28; refine Hid.out ?_)
    | (go_at_call 19; with_reducible refine (rfirst_one _).mono ?_; rintro e w' ⟨rfl, rfl⟩)
    | (go_at_call 19; with_reducible refine (rfirst_end _).mono ?_; rintro e w' ⟨rfl, rfl⟩))
  refine hide ?_
  refine (unhide (CD _)).mono ?_
  rintro e w2 ⟨rfl, hb2⟩
  have S2 := hb1.trans (hb2.mono hb1.size)
  obtain ⟨W0, hW0⟩ : ∃ W0, W0 = w2.alloc (.cells #[.int .i64 y, .int .i64 m, .int .i64 d, .int .i64 H, .int .i64 M, .int .i64 X, .int .i64 n] 35) := ⟨_, rfl⟩
  have B0 : Below w.heap.size w W0 := by rw [hW0]; exact S2.alloc S2.size _
  have BB : Below W0.heap.size W0 W0 := Below.refl _ _
  have r0 := held4 (W := W0) (v := .int .i64 y) (a := ⟨w2.heap.size, 0, none⟩) (by rw [hW0]; simp [go_sem])
  have r1 := held4 (W := W0) (v := .int .i64 m) (a := ⟨w2.heap.size, 1, none⟩) (by rw [hW0]; simp [go_sem])
  have r2 := held4 (W := W0) (v := .int .i64 d) (a := ⟨w2.heap.size, 2, none⟩) (by rw [hW0]; simp [go_sem])
  have r3 := held4 (W := W0) (v := .int .i64 H) (a := ⟨w2.heap.size, 3, none⟩) (by rw [hW0]; simp [go_sem])
  have r4 := held4 (W := W0) (v := .int .i64 M) (a := ⟨w2.heap.size, 4, none⟩) (by rw [hW0]; simp [go_sem])
  have r5 := held4 (W := W0) (v := .int .i64 X) (a := ⟨w2.heap.size, 5, none⟩) (by rw [hW0]; simp [go_sem])
  have r6 := held4 (W := W0) (v := .int .i64 n) (a := ⟨w2.heap.size, 6, none⟩) (by rw [hW0]; simp [go_sem])
  have HW := hide hW0
  clear hW0
  go_wp2_with (first
    | (go_at_call 19; with_reducible refine (rfirst_one _).mono ?_; rintro e w' ⟨rfl, rfl⟩)
    | (go_at_call 19; with_reducible refine (rfirst_end _).mono ?_; rintro e w' ⟨rfl, rfl⟩)
    | (go_at_call 16; refine Hid.out ?_))
  refine hide ?_
  rw [← unhide HW]
  refine (unhide (CN _)).mono ?_
  rintro e w3 ⟨rfl, hb3⟩
  go_wp2_with (first
    | (go_at_call 25; refine (unhide (CR _)).mono ?_; rintro e w4 ⟨rfl, hb4⟩; have hk4 := Below.trans (by assumption) (hb4.mono (Below.size (by assumption)))))
  go_ret
  exact ⟨rfl, B0.trans (Below.mono (B := W0.heap.size) (by assumption) B0.size)⟩
theorem secs_walk (s n : Int) (w : World) (hw : CTab w) (h0 : -9223372036854775808 ≤ s) (h1 : s ≤ 9223372036854775807) :
    Calls Tryd.prog 7 #[.int .i64 s, .int .i64 n] w fun e w' => e = .returned (.bool true) ∧ Below w.heap.size w w' := by
  cases h : dateOk s n
  · exact secs_bad s n w hw h0 h1 h
  · exact secs_good s n w hw h0 h1 h
end Go.Proofs.YtjngnmpjkiafpaaDoor
