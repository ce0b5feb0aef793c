import Derived.Test.YtihahbmmipnclaaDoorL2Fixed
namespace Go.Proofs.YtihahbmmipnclaaDoor
open Go.RowKit Kt Dg

theorem below_right (w w' : World) (o : Obj) (h : w' = w.alloc o) : Below w.heap.size w w' := by
  rw [h]; exact (Below.refl _ _).alloc (Nat.le_refl _) _
theorem sright_b (s n : Int) (w : World) : Calls Tryd.prog 8 #[.agg #[.int .i64 s, .int .i64 n]] w fun e w' => e = .returned (.bool (rightB s n)) ∧ Below w.heap.size w w' :=
  (sright_any s n w).mono fun _ _ ⟨h1, h2⟩ => ⟨h1, below_right _ _ _ h2⟩
theorem rright_b (s n : Int) (w : World) : Calls Tryd.prog 9 #[.agg #[.int .i64 s, .int .i64 n]] w fun e w' => e = .returned (.bool (rightB s n)) ∧ Below w.heap.size w w' :=
  (rright_any s n w).mono fun _ _ ⟨h1, h2⟩ => ⟨h1, below_right _ _ _ h2⟩
/-- The cells of a block that lies, in whatever world has come of it. -/
theorem held {W : World} {b o : Nat} {v : Value} (hv : W.cell? ⟨b, o, none⟩ = some v) (hlt : b < W.heap.size) : ∀ w', Below W.heap.size W w' → w'.cell? ⟨b, o, none⟩ = some v := by
  intro w' hb
  rw [(bcell hb).1 _ _ hlt]; exact hv
theorem mul_sec (s : Int) : mulZ 1000000000 s = clampZ (1000000000 * s) := by
  unfold mulZ; rw [clampZ_id (t := 1000000000) (by omega) (by omega)]
/-- What isn't never comes back. -/
theorem time_back (s n : Int) (h : rightB s n = true) (hlt : timeZ s n < 4611686018427387903) : ofZ (timeZ s n) / 1000000000 = s ∧ ofZ (timeZ s n) % 1000000000 = n := by
  have hr := rightB_true h
  have e : timeZ s n = 1000000000 * s + n := by
    unfold timeZ addZ at *
    rw [mul_sec s] at *
    have hb := clampZ_bd (1000000000 * s)
    by_cases h1 : 4611686018427387903 ≤ clampZ (1000000000 * s)
    · rw [if_pos h1] at hlt; omega
    · rw [if_neg h1] at hlt ⊢
      have h2 : clampZ (1000000000 * s) = 1000000000 * s := by
        unfold clampZ at h1 ⊢
        split at h1 <;> (try split at h1) <;> (try split) <;> omega
      rw [h2] at hlt h1 ⊢
      rw [clampZ_id (t := 1000000000 * s) (by omega) (by omega), clampZ_id (t := n) (by omega) (by omega)] at *
      unfold clampZ at hlt ⊢
      split at hlt <;> (try split at hlt) <;> (try split) <;> (try split) <;> omega
  have hz : ofZ (timeZ s n) = 1000000000 * s + n := by
    unfold ofZ
    rw [clampZ_id (by omega) (by omega), if_neg (by omega)]; exact e
  rw [hz]; omega
theorem of_time (s n : Int) (w : World) (h : rightB s n = true) (hlt : timeZ s n < 4611686018427387903) :
    Calls Tryd.prog 11 #[.int .i64 (timeZ s n)] w fun e w' => e = .returned (.agg #[.int .i64 s, .int .i64 n]) ∧ Below w.heap.size w w' := by
  have := sof_any (timeZ s n) w
  rw [(time_back s n h hlt).1, (time_back s n h hlt).2] at this
  exact this
theorem ofZ_bd (t : Int) : 0 ≤ ofZ t ∧ ofZ t ≤ 4611686018427387903 := by
  have := clampZ_bd t
  unfold ofZ; split <;> omega
theorem of_right (t : Int) : rightB (ofZ t / 1000000000) (ofZ t % 1000000000) = true := by
  have := ofZ_bd t
  simp [rightB]; omega
theorem time_of (t : Int) : timeZ (ofZ t / 1000000000) (ofZ t % 1000000000) = ofZ t := by
  have h := ofZ_bd t
  generalize ofZ t = x at *
  unfold timeZ
  rw [mul_sec _, clampZ_id (by omega) (by omega)]
  unfold addZ
  by_cases h1 : 4611686018427387903 ≤ 1000000000 * (x / 1000000000)
  · omega
  · rw [if_neg h1, clampZ_id (t := 1000000000 * (x / 1000000000)) (by omega) (by omega), clampZ_id (t := x % 1000000000) (by omega) (by omega), clampZ_id (by omega) (by omega)]; omega
theorem rtime_of (t : Int) (w : World) :
    Calls Tryd.prog 10 #[.agg #[.int .i64 (ofZ t / 1000000000), .int .i64 (ofZ t % 1000000000)]] w fun e w' => e = .returned (.int .i64 (ofZ t)) ∧ Below w.heap.size w w' := by
  have hb := ofZ_bd t
  have := rtime_any (ofZ t / 1000000000) (ofZ t % 1000000000) w (by omega) (by omega)
  rw [time_of] at this
  exact this

set_option maxRecDepth 1000000 in
set_option maxHeartbeats 4000000 in
theorem times_walk (s n t : Int) (w : World) (ht : Tab w) (hw : Bnd w) (s0 : -9223372036854775808 ≤ s) (s1 : s ≤ 9223372036854775807) :
    Calls Tryd.prog 3 #[.agg #[.int .i64 s, .int .i64 n], .int .i64 t] w fun e w' => e = .returned (.bool true) ∧ Below w.heap.size w w' := by
  have hb0 : Below w.heap.size w (w.alloc (.cells #[.int .i64 s, .int .i64 n] 23)) := (Below.refl _ _).alloc (Nat.le_refl _) _
  have hf := hide (fixed_any _ (ht.on hb0) (hw.on hb0))
  obtain ⟨W0, hW0⟩ : ∃ W0, W0 = w.alloc (.cells #[.int .i64 s, .int .i64 n] 23) := ⟨_, rfl⟩
  have hz0 : w.heap.size < W0.heap.size := by rw [hW0]; simp
  have r0 := held (W := W0) (b := w.heap.size) (o := 0) (v := .int .i64 s) (by rw [hW0]; simp [go_sem]) hz0
  have r1 := held (W := W0) (b := w.heap.size) (o := 1) (v := .int .i64 n) (by rw [hW0]; simp [go_sem]) hz0
  rw [← hW0] at hb0 hf
  have HW := hide hW0
  clear hW0
  have hot := hide (of_right t)
  have hmm : (ofZ t == min (max t 0) 4611686018427387903) = true := by
    rw [beq_iff_eq]
    unfold ofZ clampZ
    repeat' split
    all_goals omega
  have HM := hide hmm
  clear hmm
  go_enter Tryd.func3, Tryd.ntmps3
  go_wp2_with (go_at_call 6; refine Hid.out ?_)
  refine hide ?_
  rw [← unhide HW]
  refine (unhide hf).mono ?_
  rintro e w1 ⟨rfl, S1⟩
  go_wp2_with (go_at_call 7; refine Hid.out ?_)
  refine hide ?_
  cases hr : rightB s n
  · refine (stime_bad _ _ _ hr).mono ?_
    rintro e w2 ⟨rfl, hb2⟩
    have S2 := S1.trans (hb2.mono S1.size)
    clear hb2
    go_wp2_with fail
    go_region_held3 (fun w' => Below W0.heap.size W0 w') (first | exact S2.drew | assumption) (first | (go_at_call 8; refine (sright_b _ _ _).mono ?_; rintro e w3 ⟨rfl, hb3⟩; have hk3 := Below.trans (by assumption) (hb3.mono (Below.size (by assumption)))) | (go_at_call 9; refine (rright_b _ _ _).mono ?_; rintro e w4 ⟨rfl, hb4⟩; have hk4 := Below.trans (by assumption) (hb4.mono (Below.size (by assumption)))))
    go_wp2_with (first | (go_at_call 9; refine (rright_b _ _ _).mono ?_; rintro e w5 ⟨rfl, hb5⟩; have hk5 := Below.trans (by assumption) (hb5.mono (Below.size (by assumption)))) | (go_at_call 11; refine Hid.out ?_))
    refine hide ?_
    refine (sof_any t _).mono ?_
    rintro e w6 ⟨rfl, hb6⟩
    have S6 := Below.trans (by assumption) (hb6.mono (Below.size (by assumption)))
    obtain ⟨W6, hW6⟩ : ∃ W6, W6 = w6.alloc (.cells #[.int .i64 (ofZ t / 1000000000), .int .i64 (ofZ t % 1000000000)] 23) := ⟨_, rfl⟩
    have hz6 : w6.heap.size < W6.heap.size := by rw [hW6]; simp
    have r2 := held (W := W6) (b := w6.heap.size) (o := 0) (v := .int .i64 (ofZ t / 1000000000)) (by rw [hW6]; simp [go_sem]) hz6
    have r3 := held (W := W6) (b := w6.heap.size) (o := 1) (v := .int .i64 (ofZ t % 1000000000)) (by rw [hW6]; simp [go_sem]) hz6
    have T6 : Below w.heap.size w W6 := by rw [hW6]; exact (hb0.trans (S6.mono (by omega))).alloc (by have := S6.size; omega) _
    have HW6 := hide hW6
    clear hW6
    have hot' := unhide hot
    have hmm := unhide HM
    go_wp2_with (go_at_call 9; refine Hid.out ?_)
    refine hide ?_
    rw [← unhide HW6]
    refine (rright_b _ _ _).mono ?_
    rintro e w7 ⟨rfl, S7⟩
    go_wp2_with (go_at_call 10; refine Hid.out ?_)
    refine hide ?_
    refine (rtime_of t _).mono ?_
    rintro e w8 ⟨rfl, hb8⟩
    go_wp2_with fail
    go_ret
    exact ⟨rfl, T6.trans ((S7.trans (hb8.mono S7.size)).mono T6.size)⟩
  · refine (stime_good _ _ _ hr s1).mono ?_
    rintro e w2 ⟨rfl, hb2⟩
    have S2 := S1.trans (hb2.mono S1.size)
    clear hb2
    by_cases hge : timeZ s n < 4611686018427387903
    · have hd : decide (timeZ s n < 4611686018427387903) = true := by simp [hge]
      go_wp2_with fail
      go_region_held3 (fun w' => Below W0.heap.size W0 w') (first | exact S2.drew | assumption) (first | (go_at_call 8; refine (sright_b _ _ _).mono ?_; rintro e w3 ⟨rfl, hb3⟩; have hk3 := Below.trans (by assumption) (hb3.mono (Below.size (by assumption)))) | (go_at_call 9; refine (rright_b _ _ _).mono ?_; rintro e w4 ⟨rfl, hb4⟩; have hk4 := Below.trans (by assumption) (hb4.mono (Below.size (by assumption)))))
      go_wp2_with (go_at_call 9; refine (rright_b _ _ _).mono ?_; rintro e w5 ⟨rfl, hb5⟩; have hk5 := Below.trans (by assumption) (hb5.mono (Below.size (by assumption))))
      go_region_held3 (fun w' => Below W0.heap.size W0 w') (first | exact Below.drew (by assumption) | assumption) (first | (go_at_call 10; refine (rtime_any _ _ _ s0 s1).mono ?_; rintro e w5 ⟨rfl, hb5⟩; have hk5 := Below.trans (by assumption) (hb5.mono (Below.size (by assumption)))) | (go_at_call 11; refine (of_time _ _ _ hr hge).mono ?_; rintro e w6 ⟨rfl, hb6⟩; have hk6 := Below.trans (by assumption) (hb6.mono (Below.size (by assumption)))))
      go_wp2_with (go_at_call 11; refine Hid.out ?_)
      refine hide ?_
      refine (sof_any t _).mono ?_
      rintro e w6 ⟨rfl, hb6⟩
      have S6 := Below.trans (by assumption) (hb6.mono (Below.size (by assumption)))
      obtain ⟨W6, hW6⟩ : ∃ W6, W6 = w6.alloc (.cells #[.int .i64 (ofZ t / 1000000000), .int .i64 (ofZ t % 1000000000)] 23) := ⟨_, rfl⟩
      have hz6 : w6.heap.size < W6.heap.size := by rw [hW6]; simp
      have r2 := held (W := W6) (b := w6.heap.size) (o := 0) (v := .int .i64 (ofZ t / 1000000000)) (by rw [hW6]; simp [go_sem]) hz6
      have r3 := held (W := W6) (b := w6.heap.size) (o := 1) (v := .int .i64 (ofZ t % 1000000000)) (by rw [hW6]; simp [go_sem]) hz6
      have T6 : Below w.heap.size w W6 := by rw [hW6]; exact (hb0.trans (S6.mono (by omega))).alloc (by have := S6.size; omega) _
      have HW6 := hide hW6
      clear hW6
      have hot' := unhide hot
      have hmm := unhide HM
      go_wp2_with (go_at_call 9; refine Hid.out ?_)
      refine hide ?_
      rw [← unhide HW6]
      refine (rright_b _ _ _).mono ?_
      rintro e w7 ⟨rfl, S7⟩
      go_wp2_with (go_at_call 10; refine Hid.out ?_)
      refine hide ?_
      refine (rtime_of t _).mono ?_
      rintro e w8 ⟨rfl, hb8⟩
      go_wp2_with fail
      go_ret
      exact ⟨rfl, T6.trans ((S7.trans (hb8.mono S7.size)).mono T6.size)⟩
    · have hd : decide (timeZ s n < 4611686018427387903) = false := by simp [hge]
      go_wp2_with fail
      go_region_held3 (fun w' => Below W0.heap.size W0 w') (first | exact S2.drew | assumption) (first | (go_at_call 8; refine (sright_b _ _ _).mono ?_; rintro e w3 ⟨rfl, hb3⟩; have hk3 := Below.trans (by assumption) (hb3.mono (Below.size (by assumption)))) | (go_at_call 9; refine (rright_b _ _ _).mono ?_; rintro e w4 ⟨rfl, hb4⟩; have hk4 := Below.trans (by assumption) (hb4.mono (Below.size (by assumption)))))
      go_wp2_with (go_at_call 9; refine (rright_b _ _ _).mono ?_; rintro e w5 ⟨rfl, hb5⟩; have hk5 := Below.trans (by assumption) (hb5.mono (Below.size (by assumption))))
      refine wp_region_held_drew (S := (fun w' => Below W0.heap.size W0 w')) (by kernel_rfl) ?_ (fun hHeld => ?_)
      · (first | exact Below.drew (by assumption) | assumption)
      refine wpAnyH_take (i := 0) (oi := ?o1) (v := ?v1) ?hi1 (by kernel_rfl) (by kernel_rfl) (by kernel_rfl) ?hQ1 (Or.inl ⟨?hw1, ?hy1⟩) (by assumption) ?_
      case hi1 => (simp only [List.getElem?_toArray, List.getElem?_cons_zero]; rfl)
      case hQ1 => exact fun _ _ _ h => h
      case hw1 => rfl
      case hy1 => (intro w hSw; (try dsimp only at hSw); go_simp; (try with_reducible rfl))
      simp only [Act.put, List.setIfInBounds_toArray, List.set_cons_zero, List.set_cons_succ]
      refine wpAnyH_take (i := 1) (oi := ?o2) (v := ?v2) ?hi2 (by kernel_rfl) (by kernel_rfl) (by kernel_rfl) ?hQ2 (Or.inl ⟨?hw2, ?hy2⟩) (by assumption) ?_
      case hi2 => (simp only [List.getElem?_toArray, List.getElem?_cons_succ, List.getElem?_cons_zero]; rfl)
      case hQ2 => exact fun _ _ _ h => h
      case hw2 => rfl
      case hy2 => (intro w hSw; (try dsimp only at hSw); go_simp; (try with_reducible rfl))
      simp only [Act.put, List.setIfInBounds_toArray, List.set_cons_zero, List.set_cons_succ]
      refine wpAnyH_take (i := 2) (oi := ?o3) (v := ?v3) ?hi3 (by kernel_rfl) (by kernel_rfl) (by kernel_rfl) ?hQ3 (Or.inl ⟨?hw3, ?hy3⟩) (by assumption) ?_
      case hi3 => (simp only [List.getElem?_toArray, List.getElem?_cons_succ, List.getElem?_cons_zero]; rfl)
      case hQ3 => exact fun _ _ _ h => h
      case hw3 => rfl
      case hy3 => (intro w hSw; (try dsimp only at hSw); go_simp; (try with_reducible rfl))
      simp only [Act.put, List.setIfInBounds_toArray, List.set_cons_zero, List.set_cons_succ]
      refine wpAnyH_take (i := 3) (oi := ?o4) (v := ?v4) ?hi4 (by kernel_rfl) (by kernel_rfl) (by kernel_rfl) ?hQ4 (Or.inl ⟨?hw4, ?hy4⟩) (by assumption) ?_
      case hi4 => (simp only [List.getElem?_toArray, List.getElem?_cons_succ, List.getElem?_cons_zero]; rfl)
      case hQ4 => exact fun _ _ _ h => h
      case hw4 => rfl
      case hy4 => (intro w hSw; (try dsimp only at hSw); go_simp; (try with_reducible rfl))
      simp only [Act.put, List.setIfInBounds_toArray, List.set_cons_zero, List.set_cons_succ]
      refine wpAnyH_take (i := 4) (oi := ?o5) (v := ?v5) ?hi5 (by kernel_rfl) (by kernel_rfl) (by kernel_rfl) ?hQ5 (Or.inl ⟨?hw5, ?hy5⟩) (by assumption) ?_
      case hi5 => (simp only [List.getElem?_toArray, List.getElem?_cons_succ, List.getElem?_cons_zero]; rfl)
      case hQ5 => exact fun _ _ _ h => h
      case hw5 => rfl
      case hy5 => (intro w hSw; (try dsimp only at hSw); go_simp; (try with_reducible rfl))
      simp only [Act.put, List.setIfInBounds_toArray, List.set_cons_zero, List.set_cons_succ]
      refine wpAnyH_ready (rs := [5]) (by kernel_rfl) (by simp) ?_
      refine AllReadyH.cons (o := ?o6) ?hi6 (fun K hK => ?_) AllReadyH.nil
      case hi6 => (simp only [List.getElem?_toArray, List.getElem?_cons_succ, List.getElem?_cons_zero]; rfl)
      go_simp
      go_at_call 10; refine (rtime_any _ _ _ s0 s1).mono ?_; rintro e w5 ⟨rfl, hb5⟩; have hk5 := Below.trans (by assumption) (hb5.mono (Below.size (by assumption))); go_wp2_with fail
      refine hK.out _ _ ?_ (fun hHeld => ?_)
      · (first | exact Below.drew (by assumption) | assumption)
      clear hK K
      refine wpAnyH_take (i := 6) (oi := ?o7) (v := ?v7) ?hi7 (by kernel_rfl) (by kernel_rfl) (by kernel_rfl) ?hQ7 (Or.inl ⟨?hw7, ?hy7⟩) (by assumption) ?_
      case hi7 => (simp only [List.getElem?_toArray, List.getElem?_cons_succ, List.getElem?_cons_zero]; rfl)
      case hQ7 => exact fun _ _ _ h => h
      case hw7 => rfl
      case hy7 => (intro w hSw; (try dsimp only at hSw); go_simp; (try with_reducible rfl))
      simp only [Act.put, List.setIfInBounds_toArray, List.set_cons_zero, List.set_cons_succ]
      refine wpAnyH_take (i := 7) (oi := ?o8) (v := ?v8) ?hi8 (by kernel_rfl) (by kernel_rfl) (by kernel_rfl) ?hQ8 (Or.inl ⟨?hw8, ?hy8⟩) (by assumption) ?_
      case hi8 => (simp only [List.getElem?_toArray, List.getElem?_cons_succ, List.getElem?_cons_zero]; rfl)
      case hQ8 => exact fun _ _ _ h => h
      case hw8 => rfl
      case hy8 => (intro w hSw; (try dsimp only at hSw); go_simp; (try with_reducible rfl))
      simp only [Act.put, List.setIfInBounds_toArray, List.set_cons_zero, List.set_cons_succ]
      refine wpAnyH_take (i := 8) (oi := ?o9) (v := ?v9) ?hi9 (by kernel_rfl) (by kernel_rfl) (by kernel_rfl) ?hQ9 (Or.inl ⟨?hw9, ?hy9⟩) (by assumption) ?_
      case hi9 => (simp only [List.getElem?_toArray, List.getElem?_cons_succ, List.getElem?_cons_zero]; rfl)
      case hQ9 => exact fun _ _ _ h => h
      case hw9 => rfl
      case hy9 => (intro w hSw; (try dsimp only at hSw); go_simp; (try with_reducible rfl))
      simp only [Act.put, List.setIfInBounds_toArray, List.set_cons_zero, List.set_cons_succ]
      refine wpAnyH_take (i := 9) (oi := ?o10) (v := ?v10) ?hi10 (by kernel_rfl) (by kernel_rfl) (by kernel_rfl) ?hQ10 (Or.inl ⟨?hw10, ?hy10⟩) (by assumption) ?_
      case hi10 => (simp only [List.getElem?_toArray, List.getElem?_cons_succ, List.getElem?_cons_zero]; rfl)
      case hQ10 => exact fun _ _ _ h => h
      case hw10 => rfl
      case hy10 => (intro w hSw; (try dsimp only at hSw); go_simp; (try with_reducible rfl))
      simp only [Act.put, List.setIfInBounds_toArray, List.set_cons_zero, List.set_cons_succ]
      refine wpAnyH_take (i := 10) (oi := ?o11) (v := ?v11) ?hi11 (by kernel_rfl) (by kernel_rfl) (by kernel_rfl) ?hQ11 (Or.inl ⟨?hw11, ?hy11⟩) (by assumption) ?_
      case hi11 => (simp only [List.getElem?_toArray, List.getElem?_cons_succ, List.getElem?_cons_zero]; rfl)
      case hQ11 => exact fun _ _ _ h => h
      case hw11 => rfl
      case hy11 => (intro w hSw; (try dsimp only at hSw); go_simp; (try with_reducible rfl))
      simp only [Act.put, List.setIfInBounds_toArray, List.set_cons_zero, List.set_cons_succ]
      refine wpAnyH_take (i := 11) (oi := ?o12) (v := ?v12) ?hi12 (by kernel_rfl) (by kernel_rfl) (by kernel_rfl) ?hQ12 (Or.inl ⟨?hw12, ?hy12⟩) (by assumption) ?_
      case hi12 => (simp only [List.getElem?_toArray, List.getElem?_cons_succ, List.getElem?_cons_zero]; rfl)
      case hQ12 => exact fun _ _ _ h => h
      case hw12 => rfl
      case hy12 => (intro w hSw; (try dsimp only at hSw); go_simp; (try with_reducible rfl))
      simp only [Act.put, List.setIfInBounds_toArray, List.set_cons_zero, List.set_cons_succ]
      refine wpAnyH_take (i := 12) (oi := ?o13) (v := undef) ?hi13 (by kernel_rfl) (by kernel_rfl) (by kernel_rfl) ?hQ13 (Or.inr ⟨?hw13, rfl⟩) (by assumption) ?_
      case hi13 => (simp only [List.getElem?_toArray, List.getElem?_cons_succ, List.getElem?_cons_zero]; rfl)
      case hQ13 => exact fun _ _ _ h => h
      case hw13 => rfl
      simp only [Act.put, List.setIfInBounds_toArray, List.set_cons_zero, List.set_cons_succ]
      refine wpAnyH_take (i := 13) (oi := ?o14) (v := undef) ?hi14 (by kernel_rfl) (by kernel_rfl) (by kernel_rfl) ?hQ14 (Or.inr ⟨?hw14, rfl⟩) (by assumption) ?_
      case hi14 => (simp only [List.getElem?_toArray, List.getElem?_cons_succ, List.getElem?_cons_zero]; rfl)
      case hQ14 => exact fun _ _ _ h => h
      case hw14 => rfl
      simp only [Act.put, List.setIfInBounds_toArray, List.set_cons_zero, List.set_cons_succ]
      refine wpAnyH_take (i := 14) (oi := ?o15) (v := undef) ?hi15 (by kernel_rfl) (by kernel_rfl) (by kernel_rfl) ?hQ15 (Or.inr ⟨?hw15, rfl⟩) (by assumption) ?_
      case hi15 => (simp only [List.getElem?_toArray, List.getElem?_cons_succ, List.getElem?_cons_zero]; rfl)
      case hQ15 => exact fun _ _ _ h => h
      case hw15 => rfl
      simp only [Act.put, List.setIfInBounds_toArray, List.set_cons_zero, List.set_cons_succ]
      refine wpAnyH_take (i := 15) (oi := ?o16) (v := undef) ?hi16 (by kernel_rfl) (by kernel_rfl) (by kernel_rfl) ?hQ16 (Or.inr ⟨?hw16, rfl⟩) (by assumption) ?_
      case hi16 => (simp only [List.getElem?_toArray, List.getElem?_cons_succ, List.getElem?_cons_zero]; rfl)
      case hQ16 => exact fun _ _ _ h => h
      case hw16 => rfl
      simp only [Act.put, List.setIfInBounds_toArray, List.set_cons_zero, List.set_cons_succ]
      refine wpAnyH_take (i := 16) (oi := ?o17) (v := ?v17) ?hi17 (by kernel_rfl) (by kernel_rfl) (by kernel_rfl) ?hQ17 (Or.inl ⟨?hw17, ?hy17⟩) (by assumption) ?_
      case hi17 => (simp only [List.getElem?_toArray, List.getElem?_cons_succ, List.getElem?_cons_zero]; rfl)
      case hQ17 => exact fun _ _ _ h => h
      case hw17 => rfl
      case hy17 => (intro w hSw; (try dsimp only at hSw); go_simp; (try with_reducible rfl))
      simp only [Act.put, List.setIfInBounds_toArray, List.set_cons_zero, List.set_cons_succ]
      refine wpAnyH_take (i := 17) (oi := ?o18) (v := ?v18) ?hi18 (by kernel_rfl) (by kernel_rfl) (by kernel_rfl) ?hQ18 (Or.inl ⟨?hw18, ?hy18⟩) (by assumption) ?_
      case hi18 => (simp only [List.getElem?_toArray, List.getElem?_cons_succ, List.getElem?_cons_zero]; rfl)
      case hQ18 => exact fun _ _ _ h => h
      case hw18 => rfl
      case hy18 => (intro w hSw; (try dsimp only at hSw); go_simp; (try with_reducible rfl))
      simp only [Act.put, List.setIfInBounds_toArray, List.set_cons_zero, List.set_cons_succ]
      refine wpAnyH_done (by kernel_rfl) ?_ _
      go_wp2_with (go_at_call 11; refine Hid.out ?_)
      refine hide ?_
      refine (sof_any t _).mono ?_
      rintro e w6 ⟨rfl, hb6⟩
      have S6 := Below.trans (by assumption) (hb6.mono (Below.size (by assumption)))
      obtain ⟨W6, hW6⟩ : ∃ W6, W6 = w6.alloc (.cells #[.int .i64 (ofZ t / 1000000000), .int .i64 (ofZ t % 1000000000)] 23) := ⟨_, rfl⟩
      have hz6 : w6.heap.size < W6.heap.size := by rw [hW6]; simp
      have r2 := held (W := W6) (b := w6.heap.size) (o := 0) (v := .int .i64 (ofZ t / 1000000000)) (by rw [hW6]; simp [go_sem]) hz6
      have r3 := held (W := W6) (b := w6.heap.size) (o := 1) (v := .int .i64 (ofZ t % 1000000000)) (by rw [hW6]; simp [go_sem]) hz6
      have T6 : Below w.heap.size w W6 := by rw [hW6]; exact (hb0.trans (S6.mono (by omega))).alloc (by have := S6.size; omega) _
      have HW6 := hide hW6
      clear hW6
      have hot' := unhide hot
      have hmm := unhide HM
      go_wp2_with (go_at_call 9; refine Hid.out ?_)
      refine hide ?_
      rw [← unhide HW6]
      refine (rright_b _ _ _).mono ?_
      rintro e w7 ⟨rfl, S7⟩
      go_wp2_with (go_at_call 10; refine Hid.out ?_)
      refine hide ?_
      refine (rtime_of t _).mono ?_
      rintro e w8 ⟨rfl, hb8⟩
      go_wp2_with fail
      go_ret
      exact ⟨rfl, T6.trans ((S7.trans (hb8.mono S7.size)).mono T6.size)⟩
end Go.Proofs.YtihahbmmipnclaaDoor
