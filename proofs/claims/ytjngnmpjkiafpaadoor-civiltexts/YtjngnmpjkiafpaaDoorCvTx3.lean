import Derived.Test.YtjngnmpjkiafpaaDoorCvTx2
namespace Go.Proofs.YtjngnmpjkiafpaaDoor
open Go.RowKit Cv Dg

theorem div_step (n : Int) (j : Nat) (_h0 : 0 ≤ n) : n / 10 ^ j / 10 = n / 10 ^ (j + 1) := by
  rw [Int.ediv_ediv_of_nonneg (Int.pow_nonneg (by decide)), Int.pow_succ]
set_option maxHeartbeats 1000000 in
theorem rpad_any (n : Int) (k : Nat) (w : World) (h0 : 0 ≤ n) (h1 : n ≤ 9223372036854775807) (hk : k ≤ 9) :
    Calls Tryd.prog 38 #[.int .i64 n, .int .i64 k] w fun e w' => e = .returned (.string (padB k n)) ∧ Below w.heap.size w w' := by
  go_enter Tryd.func38, Tryd.ntmps38
  go_wp2_with fail
  go_loopw [0, 5, 6] (fun a b c w' => ∃ (j : Nat) (x : Int), a = .int .i64 x ∧ b = .string (padB j n) ∧ c = .int .i64 (j : Int) ∧ j ≤ k ∧ 0 ≤ x ∧ x ≤ 9223372036854775807 ∧ Hid (x = n / 10 ^ j) ∧ Below w.heap.size w w') (fun _ _ c _ => k - (intOf c).toNat)
  case atStart => exact ⟨0, n, rfl, rfl, rfl, by omega, h0, h1, hide (by simp), Below.refl _ _⟩
  case round =>
    obtain ⟨j, x, rfl, rfl, rfl, hj, x0, x1, HX, hb⟩ := hrel
    by_cases hlt : j < k
    · have e0 : x.tdiv 10 = x / 10 := Int.tdiv_eq_ediv_of_nonneg x0
      have e2 : x.tmod 10 = x % 10 := Int.tmod_eq_emod_of_nonneg x0
      have e3 : IntKind.i64.wrap (48 + x % 10) = 48 + x % 10 := by rw [IntKind.wrap_i64]; omega
      have e4 : IntKind.u8.wrap (48 + x % 10) = 48 + x % 10 := by rw [IntKind.wrap_u8]; omega
      have hcv := conv_new (48 + x % 10) wr
      have z1 := padB_size j n
      have z2 := oneS_size (48 + x % 10)
      have HS := hide (pad_step j n h0)
      rw [← unhide HX] at HS
      have HD := hide (div_step n j h0)
      rw [← unhide HX] at HD
      go_wp2_with fail
      go_round
      case rel => exact ⟨j + 1, x / 10, by go_num, by rw [← unhide HS], by go_num, by omega, by omega, by omega, HD, hb.alloc hb.size _⟩
      case measure => simp [intOf]; omega
    · obtain rfl : j = k := by omega
      go_wp2_with fail
      go_ret
      exact ⟨rfl, hb⟩
theorem rpad4 (n : Int) (w : World) (h0 : 0 ≤ n) (h1 : n ≤ 9223372036854775807) :
    Calls Tryd.prog 38 #[.int .i64 n, .int .i64 4] w fun e w' => e = .returned (.string (padB 4 n)) ∧ Below w.heap.size w w' := rpad_any n 4 w h0 h1 (by omega)
theorem rpad2 (n : Int) (w : World) (h0 : 0 ≤ n) (h1 : n ≤ 9223372036854775807) :
    Calls Tryd.prog 38 #[.int .i64 n, .int .i64 2] w fun e w' => e = .returned (.string (padB 2 n)) ∧ Below w.heap.size w w' := rpad_any n 2 w h0 h1 (by omega)
theorem rpad9 (n : Int) (w : World) (h0 : 0 ≤ n) (h1 : n ≤ 9223372036854775807) :
    Calls Tryd.prog 38 #[.int .i64 n, .int .i64 9] w fun e w' => e = .returned (.string (padB 9 n)) ∧ Below w.heap.size w w' := rpad_any n 9 w h0 h1 (by omega)
theorem rtext_join (y m d H M S X : Int) :
    padB 4 y ++ ⟨#[45]⟩ ++ padB 2 m ++ ⟨#[45]⟩ ++ padB 2 d ++ ⟨#[84]⟩ ++ padB 2 H ++ ⟨#[58]⟩ ++ padB 2 M ++ ⟨#[58]⟩ ++ padB 2 S ++ ⟨#[46]⟩ ++ padB 9 X = textS y m d H M S X := by
  apply ByteArray.ext
  rw [← Array.toList_inj]
  simp only [Go.Joins.data_append, padB_list, textS, textL]
  simp
set_option maxRecDepth 100000 in
set_option maxHeartbeats 4000000 in
theorem rtext_any (y m d H M S X : Int) (w : World) (h : rB y m d H M S X = true) :
    Calls Tryd.prog 29 #[dateV y m d H M S X] w fun e w' => e = .returned (.string (textS y m d H M S X)) ∧ Below w.heap.size w w' := by
  have hr := (rB_iff ..).1 h
  have hi := valid_in hr.1
  have hb1 := below1 w (.cells #[.int .i64 y, .int .i64 m, .int .i64 d, .int .i64 H, .int .i64 M, .int .i64 S, .int .i64 X] 35)
  obtain ⟨W0, hW0⟩ : ∃ W0, W0 = w.alloc (.cells #[.int .i64 y, .int .i64 m, .int .i64 d, .int .i64 H, .int .i64 M, .int .i64 S, .int .i64 X] 35) := ⟨_, rfl⟩
  rw [← hW0] at hb1
  have r0 := held4 (W := W0) (v := .int .i64 y) (a := ⟨w.heap.size, 0, none⟩) (by rw [hW0]; simp [go_sem])
  have r1 := held4 (W := W0) (v := .int .i64 m) (a := ⟨w.heap.size, 1, none⟩) (by rw [hW0]; simp [go_sem])
  have r2 := held4 (W := W0) (v := .int .i64 d) (a := ⟨w.heap.size, 2, none⟩) (by rw [hW0]; simp [go_sem])
  have r3 := held4 (W := W0) (v := .int .i64 H) (a := ⟨w.heap.size, 3, none⟩) (by rw [hW0]; simp [go_sem])
  have r4 := held4 (W := W0) (v := .int .i64 M) (a := ⟨w.heap.size, 4, none⟩) (by rw [hW0]; simp [go_sem])
  have r5 := held4 (W := W0) (v := .int .i64 S) (a := ⟨w.heap.size, 5, none⟩) (by rw [hW0]; simp [go_sem])
  have r6 := held4 (W := W0) (v := .int .i64 X) (a := ⟨w.heap.size, 6, none⟩) (by rw [hW0]; simp [go_sem])
  have HW := hide hW0
  clear hW0
  have zy := padB_size 4 y
  have zm := padB_size 2 m
  have zd := padB_size 2 d
  have zH := padB_size 2 H
  have zM := padB_size 2 M
  have zS := padB_size 2 S
  have zX := padB_size 9 X
  have HJ := hide (rtext_join y m d H M S X)
  obtain ⟨hv, g1, g2, g3, g4, g5, g6, g7, g8⟩ := hr
  obtain ⟨i1, i2, i3, i4, i5, i6⟩ := hi
  clear h hv
  have hb2 := Below.refl W0.heap.size W0
  go_enter Tryd.func29, Tryd.ntmps29
  go_wp2_with fail
  rw [← unhide HW]
  refine wp_region_held_drew (S := (fun w' => Below W0.heap.size W0 w')) (by kernel_rfl) ?_ (fun hHeld => ?_)
  · (first | (first | exact hb2.drew | assumption))
  refine wpAnyH_take (i := 0) (oi := ?o29) (v := ?v29) ?hi29 (by kernel_rfl) (by kernel_rfl) (by kernel_rfl) ?hQ29 (Or.inl ⟨?hw29, ?hy29⟩) (by assumption) ?_
  case hi29 => (simp only [List.getElem?_toArray, List.getElem?_cons_zero]; rfl)
  case hQ29 => exact fun _ _ _ h => h
  case hw29 => rfl
  case hy29 => (intro w hSw; (try dsimp only at hSw); go_simp; (try with_reducible rfl))
  simp only [Act.put, List.setIfInBounds_toArray, List.set_cons_zero, List.set_cons_succ]
  refine wpAnyH_take (i := 1) (oi := ?o30) (v := ?v30) ?hi30 (by kernel_rfl) (by kernel_rfl) (by kernel_rfl) ?hQ30 (Or.inl ⟨?hw30, ?hy30⟩) (by assumption) ?_
  case hi30 => (simp only [List.getElem?_toArray, List.getElem?_cons_succ, List.getElem?_cons_zero]; rfl)
  case hQ30 => exact fun _ _ _ h => h
  case hw30 => rfl
  case hy30 => (intro w hSw; (try dsimp only at hSw); go_simp; (try with_reducible rfl))
  simp only [Act.put, List.setIfInBounds_toArray, List.set_cons_zero, List.set_cons_succ]
  refine wpAnyH_take (i := 4) (oi := ?o31) (v := ?v31) ?hi31 (by kernel_rfl) (by kernel_rfl) (by kernel_rfl) ?hQ31 (Or.inl ⟨?hw31, ?hy31⟩) (by assumption) ?_
  case hi31 => (simp only [List.getElem?_toArray, List.getElem?_cons_succ, List.getElem?_cons_zero]; rfl)
  case hQ31 => exact fun _ _ _ h => h
  case hw31 => rfl
  case hy31 => (intro w hSw; (try dsimp only at hSw); go_simp; (try with_reducible rfl))
  simp only [Act.put, List.setIfInBounds_toArray, List.set_cons_zero, List.set_cons_succ]
  refine wpAnyH_take (i := 5) (oi := ?o32) (v := ?v32) ?hi32 (by kernel_rfl) (by kernel_rfl) (by kernel_rfl) ?hQ32 (Or.inl ⟨?hw32, ?hy32⟩) (by assumption) ?_
  case hi32 => (simp only [List.getElem?_toArray, List.getElem?_cons_succ, List.getElem?_cons_zero]; rfl)
  case hQ32 => exact fun _ _ _ h => h
  case hw32 => rfl
  case hy32 => (intro w hSw; (try dsimp only at hSw); go_simp; (try with_reducible rfl))
  simp only [Act.put, List.setIfInBounds_toArray, List.set_cons_zero, List.set_cons_succ]
  refine wpAnyH_take (i := 9) (oi := ?o33) (v := ?v33) ?hi33 (by kernel_rfl) (by kernel_rfl) (by kernel_rfl) ?hQ33 (Or.inl ⟨?hw33, ?hy33⟩) (by assumption) ?_
  case hi33 => (simp only [List.getElem?_toArray, List.getElem?_cons_succ, List.getElem?_cons_zero]; rfl)
  case hQ33 => exact fun _ _ _ h => h
  case hw33 => rfl
  case hy33 => (intro w hSw; (try dsimp only at hSw); go_simp; (try with_reducible rfl))
  simp only [Act.put, List.setIfInBounds_toArray, List.set_cons_zero, List.set_cons_succ]
  refine wpAnyH_take (i := 10) (oi := ?o34) (v := ?v34) ?hi34 (by kernel_rfl) (by kernel_rfl) (by kernel_rfl) ?hQ34 (Or.inl ⟨?hw34, ?hy34⟩) (by assumption) ?_
  case hi34 => (simp only [List.getElem?_toArray, List.getElem?_cons_succ, List.getElem?_cons_zero]; rfl)
  case hQ34 => exact fun _ _ _ h => h
  case hw34 => rfl
  case hy34 => (intro w hSw; (try dsimp only at hSw); go_simp; (try with_reducible rfl))
  simp only [Act.put, List.setIfInBounds_toArray, List.set_cons_zero, List.set_cons_succ]
  refine wpAnyH_take (i := 14) (oi := ?o35) (v := ?v35) ?hi35 (by kernel_rfl) (by kernel_rfl) (by kernel_rfl) ?hQ35 (Or.inl ⟨?hw35, ?hy35⟩) (by assumption) ?_
  case hi35 => (simp only [List.getElem?_toArray, List.getElem?_cons_succ, List.getElem?_cons_zero]; rfl)
  case hQ35 => exact fun _ _ _ h => h
  case hw35 => rfl
  case hy35 => (intro w hSw; (try dsimp only at hSw); go_simp; (try with_reducible rfl))
  simp only [Act.put, List.setIfInBounds_toArray, List.set_cons_zero, List.set_cons_succ]
  refine wpAnyH_take (i := 15) (oi := ?o36) (v := ?v36) ?hi36 (by kernel_rfl) (by kernel_rfl) (by kernel_rfl) ?hQ36 (Or.inl ⟨?hw36, ?hy36⟩) (by assumption) ?_
  case hi36 => (simp only [List.getElem?_toArray, List.getElem?_cons_succ, List.getElem?_cons_zero]; rfl)
  case hQ36 => exact fun _ _ _ h => h
  case hw36 => rfl
  case hy36 => (intro w hSw; (try dsimp only at hSw); go_simp; (try with_reducible rfl))
  simp only [Act.put, List.setIfInBounds_toArray, List.set_cons_zero, List.set_cons_succ]
  refine wpAnyH_take (i := 19) (oi := ?o37) (v := ?v37) ?hi37 (by kernel_rfl) (by kernel_rfl) (by kernel_rfl) ?hQ37 (Or.inl ⟨?hw37, ?hy37⟩) (by assumption) ?_
  case hi37 => (simp only [List.getElem?_toArray, List.getElem?_cons_succ, List.getElem?_cons_zero]; rfl)
  case hQ37 => exact fun _ _ _ h => h
  case hw37 => rfl
  case hy37 => (intro w hSw; (try dsimp only at hSw); go_simp; (try with_reducible rfl))
  simp only [Act.put, List.setIfInBounds_toArray, List.set_cons_zero, List.set_cons_succ]
  refine wpAnyH_take (i := 20) (oi := ?o38) (v := ?v38) ?hi38 (by kernel_rfl) (by kernel_rfl) (by kernel_rfl) ?hQ38 (Or.inl ⟨?hw38, ?hy38⟩) (by assumption) ?_
  case hi38 => (simp only [List.getElem?_toArray, List.getElem?_cons_succ, List.getElem?_cons_zero]; rfl)
  case hQ38 => exact fun _ _ _ h => h
  case hw38 => rfl
  case hy38 => (intro w hSw; (try dsimp only at hSw); go_simp; (try with_reducible rfl))
  simp only [Act.put, List.setIfInBounds_toArray, List.set_cons_zero, List.set_cons_succ]
  refine wpAnyH_take (i := 24) (oi := ?o39) (v := ?v39) ?hi39 (by kernel_rfl) (by kernel_rfl) (by kernel_rfl) ?hQ39 (Or.inl ⟨?hw39, ?hy39⟩) (by assumption) ?_
  case hi39 => (simp only [List.getElem?_toArray, List.getElem?_cons_succ, List.getElem?_cons_zero]; rfl)
  case hQ39 => exact fun _ _ _ h => h
  case hw39 => rfl
  case hy39 => (intro w hSw; (try dsimp only at hSw); go_simp; (try with_reducible rfl))
  simp only [Act.put, List.setIfInBounds_toArray, List.set_cons_zero, List.set_cons_succ]
  refine wpAnyH_take (i := 25) (oi := ?o40) (v := ?v40) ?hi40 (by kernel_rfl) (by kernel_rfl) (by kernel_rfl) ?hQ40 (Or.inl ⟨?hw40, ?hy40⟩) (by assumption) ?_
  case hi40 => (simp only [List.getElem?_toArray, List.getElem?_cons_succ, List.getElem?_cons_zero]; rfl)
  case hQ40 => exact fun _ _ _ h => h
  case hw40 => rfl
  case hy40 => (intro w hSw; (try dsimp only at hSw); go_simp; (try with_reducible rfl))
  simp only [Act.put, List.setIfInBounds_toArray, List.set_cons_zero, List.set_cons_succ]
  refine wpAnyH_take (i := 29) (oi := ?o41) (v := ?v41) ?hi41 (by kernel_rfl) (by kernel_rfl) (by kernel_rfl) ?hQ41 (Or.inl ⟨?hw41, ?hy41⟩) (by assumption) ?_
  case hi41 => (simp only [List.getElem?_toArray, List.getElem?_cons_succ, List.getElem?_cons_zero]; rfl)
  case hQ41 => exact fun _ _ _ h => h
  case hw41 => rfl
  case hy41 => (intro w hSw; (try dsimp only at hSw); go_simp; (try with_reducible rfl))
  simp only [Act.put, List.setIfInBounds_toArray, List.set_cons_zero, List.set_cons_succ]
  refine wpAnyH_take (i := 30) (oi := ?o42) (v := ?v42) ?hi42 (by kernel_rfl) (by kernel_rfl) (by kernel_rfl) ?hQ42 (Or.inl ⟨?hw42, ?hy42⟩) (by assumption) ?_
  case hi42 => (simp only [List.getElem?_toArray, List.getElem?_cons_succ, List.getElem?_cons_zero]; rfl)
  case hQ42 => exact fun _ _ _ h => h
  case hw42 => rfl
  case hy42 => (intro w hSw; (try dsimp only at hSw); go_simp; (try with_reducible rfl))
  simp only [Act.put, List.setIfInBounds_toArray, List.set_cons_zero, List.set_cons_succ]
  refine wpAnyH_ready (rs := [2]) (by kernel_rfl) (by simp) ?_
  refine AllReadyH.cons (o := ?o43) ?hi43 (fun K hK => ?_) AllReadyH.nil
  case hi43 => (simp only [List.getElem?_toArray, List.getElem?_cons_succ, List.getElem?_cons_zero]; rfl)
  go_simp
  (first | (go_at_call 38; with_reducible refine (rpad2 _ _ (by omega) (by omega)).mono ?_; rintro e w4 ⟨rfl, hb4⟩; have hk4 := Below.trans (by assumption) (hb4.mono (Below.size (by assumption)))) | (go_at_call 38; with_reducible refine (rpad4 _ _ (by omega) (by omega)).mono ?_; rintro e w4 ⟨rfl, hb4⟩; have hk4 := Below.trans (by assumption) (hb4.mono (Below.size (by assumption)))) | (go_at_call 38; with_reducible refine (rpad9 _ _ (by omega) (by omega)).mono ?_; rintro e w4 ⟨rfl, hb4⟩; have hk4 := Below.trans (by assumption) (hb4.mono (Below.size (by assumption))))); go_wp2_with fail
  refine hK.out _ _ ?_ (fun hHeld => ?_)
  · (first | (first | exact hb2.drew | assumption))
  clear hK K
  refine wpAnyH_take (i := 3) (oi := ?o44) (v := ?v44) ?hi44 (by kernel_rfl) (by kernel_rfl) (by kernel_rfl) ?hQ44 (Or.inl ⟨?hw44, ?hy44⟩) (by assumption) ?_
  case hi44 => (simp only [List.getElem?_toArray, List.getElem?_cons_succ, List.getElem?_cons_zero]; rfl)
  case hQ44 => exact fun _ _ _ h => h
  case hw44 => rfl
  case hy44 => (intro w hSw; (try dsimp only at hSw); go_simp; (try with_reducible rfl))
  simp only [Act.put, List.setIfInBounds_toArray, List.set_cons_zero, List.set_cons_succ]
  refine wpAnyH_ready (rs := [6]) (by kernel_rfl) (by simp) ?_
  refine AllReadyH.cons (o := ?o45) ?hi45 (fun K hK => ?_) AllReadyH.nil
  case hi45 => (simp only [List.getElem?_toArray, List.getElem?_cons_succ, List.getElem?_cons_zero]; rfl)
  go_simp
  (first | (go_at_call 38; with_reducible refine (rpad2 _ _ (by omega) (by omega)).mono ?_; rintro e w4 ⟨rfl, hb4⟩; have hk4 := Below.trans (by assumption) (hb4.mono (Below.size (by assumption)))) | (go_at_call 38; with_reducible refine (rpad4 _ _ (by omega) (by omega)).mono ?_; rintro e w4 ⟨rfl, hb4⟩; have hk4 := Below.trans (by assumption) (hb4.mono (Below.size (by assumption)))) | (go_at_call 38; with_reducible refine (rpad9 _ _ (by omega) (by omega)).mono ?_; rintro e w4 ⟨rfl, hb4⟩; have hk4 := Below.trans (by assumption) (hb4.mono (Below.size (by assumption))))); go_wp2_with fail
  refine hK.out _ _ ?_ (fun hHeld => ?_)
  · (first | (first | exact hb2.drew | assumption))
  clear hK K
  refine wpAnyH_take (i := 7) (oi := ?o46) (v := ?v46) ?hi46 (by kernel_rfl) (by kernel_rfl) (by kernel_rfl) ?hQ46 (Or.inl ⟨?hw46, ?hy46⟩) (by assumption) ?_
  case hi46 => (simp only [List.getElem?_toArray, List.getElem?_cons_succ, List.getElem?_cons_zero]; rfl)
  case hQ46 => exact fun _ _ _ h => h
  case hw46 => rfl
  case hy46 => (intro w hSw; (try dsimp only at hSw); go_simp; (try with_reducible rfl))
  simp only [Act.put, List.setIfInBounds_toArray, List.set_cons_zero, List.set_cons_succ]
  refine wpAnyH_take (i := 8) (oi := ?o47) (v := ?v47) ?hi47 (by kernel_rfl) (by kernel_rfl) (by kernel_rfl) ?hQ47 (Or.inl ⟨?hw47, ?hy47⟩) (by assumption) ?_
  case hi47 => (simp only [List.getElem?_toArray, List.getElem?_cons_succ, List.getElem?_cons_zero]; rfl)
  case hQ47 => exact fun _ _ _ h => h
  case hw47 => rfl
  case hy47 => (intro w hSw; (try dsimp only at hSw); go_simp; (try with_reducible rfl))
  simp only [Act.put, List.setIfInBounds_toArray, List.set_cons_zero, List.set_cons_succ]
  refine wpAnyH_ready (rs := [11]) (by kernel_rfl) (by simp) ?_
  refine AllReadyH.cons (o := ?o48) ?hi48 (fun K hK => ?_) AllReadyH.nil
  case hi48 => (simp only [List.getElem?_toArray, List.getElem?_cons_succ, List.getElem?_cons_zero]; rfl)
  go_simp
  (first | (go_at_call 38; with_reducible refine (rpad2 _ _ (by omega) (by omega)).mono ?_; rintro e w4 ⟨rfl, hb4⟩; have hk4 := Below.trans (by assumption) (hb4.mono (Below.size (by assumption)))) | (go_at_call 38; with_reducible refine (rpad4 _ _ (by omega) (by omega)).mono ?_; rintro e w4 ⟨rfl, hb4⟩; have hk4 := Below.trans (by assumption) (hb4.mono (Below.size (by assumption)))) | (go_at_call 38; with_reducible refine (rpad9 _ _ (by omega) (by omega)).mono ?_; rintro e w4 ⟨rfl, hb4⟩; have hk4 := Below.trans (by assumption) (hb4.mono (Below.size (by assumption))))); go_wp2_with fail
  refine hK.out _ _ ?_ (fun hHeld => ?_)
  · (first | (first | exact hb2.drew | assumption))
  clear hK K
  refine wpAnyH_take (i := 12) (oi := ?o49) (v := ?v49) ?hi49 (by kernel_rfl) (by kernel_rfl) (by kernel_rfl) ?hQ49 (Or.inl ⟨?hw49, ?hy49⟩) (by assumption) ?_
  case hi49 => (simp only [List.getElem?_toArray, List.getElem?_cons_succ, List.getElem?_cons_zero]; rfl)
  case hQ49 => exact fun _ _ _ h => h
  case hw49 => rfl
  case hy49 => (intro w hSw; (try dsimp only at hSw); go_simp; (try with_reducible rfl))
  simp only [Act.put, List.setIfInBounds_toArray, List.set_cons_zero, List.set_cons_succ]
  refine wpAnyH_take (i := 13) (oi := ?o50) (v := ?v50) ?hi50 (by kernel_rfl) (by kernel_rfl) (by kernel_rfl) ?hQ50 (Or.inl ⟨?hw50, ?hy50⟩) (by assumption) ?_
  case hi50 => (simp only [List.getElem?_toArray, List.getElem?_cons_succ, List.getElem?_cons_zero]; rfl)
  case hQ50 => exact fun _ _ _ h => h
  case hw50 => rfl
  case hy50 => (intro w hSw; (try dsimp only at hSw); go_simp; (try with_reducible rfl))
  simp only [Act.put, List.setIfInBounds_toArray, List.set_cons_zero, List.set_cons_succ]
  refine wpAnyH_ready (rs := [16]) (by kernel_rfl) (by simp) ?_
  refine AllReadyH.cons (o := ?o51) ?hi51 (fun K hK => ?_) AllReadyH.nil
  case hi51 => (simp only [List.getElem?_toArray, List.getElem?_cons_succ, List.getElem?_cons_zero]; rfl)
  go_simp
  (first | (go_at_call 38; with_reducible refine (rpad2 _ _ (by omega) (by omega)).mono ?_; rintro e w4 ⟨rfl, hb4⟩; have hk4 := Below.trans (by assumption) (hb4.mono (Below.size (by assumption)))) | (go_at_call 38; with_reducible refine (rpad4 _ _ (by omega) (by omega)).mono ?_; rintro e w4 ⟨rfl, hb4⟩; have hk4 := Below.trans (by assumption) (hb4.mono (Below.size (by assumption)))) | (go_at_call 38; with_reducible refine (rpad9 _ _ (by omega) (by omega)).mono ?_; rintro e w4 ⟨rfl, hb4⟩; have hk4 := Below.trans (by assumption) (hb4.mono (Below.size (by assumption))))); go_wp2_with fail
  refine hK.out _ _ ?_ (fun hHeld => ?_)
  · (first | (first | exact hb2.drew | assumption))
  clear hK K
  refine wpAnyH_take (i := 17) (oi := ?o52) (v := ?v52) ?hi52 (by kernel_rfl) (by kernel_rfl) (by kernel_rfl) ?hQ52 (Or.inl ⟨?hw52, ?hy52⟩) (by assumption) ?_
  case hi52 => (simp only [List.getElem?_toArray, List.getElem?_cons_succ, List.getElem?_cons_zero]; rfl)
  case hQ52 => exact fun _ _ _ h => h
  case hw52 => rfl
  case hy52 => (intro w hSw; (try dsimp only at hSw); go_simp; (try with_reducible rfl))
  simp only [Act.put, List.setIfInBounds_toArray, List.set_cons_zero, List.set_cons_succ]
  refine wpAnyH_take (i := 18) (oi := ?o53) (v := ?v53) ?hi53 (by kernel_rfl) (by kernel_rfl) (by kernel_rfl) ?hQ53 (Or.inl ⟨?hw53, ?hy53⟩) (by assumption) ?_
  case hi53 => (simp only [List.getElem?_toArray, List.getElem?_cons_succ, List.getElem?_cons_zero]; rfl)
  case hQ53 => exact fun _ _ _ h => h
  case hw53 => rfl
  case hy53 => (intro w hSw; (try dsimp only at hSw); go_simp; (try with_reducible rfl))
  simp only [Act.put, List.setIfInBounds_toArray, List.set_cons_zero, List.set_cons_succ]
  refine wpAnyH_ready (rs := [21]) (by kernel_rfl) (by simp) ?_
  refine AllReadyH.cons (o := ?o54) ?hi54 (fun K hK => ?_) AllReadyH.nil
  case hi54 => (simp only [List.getElem?_toArray, List.getElem?_cons_succ, List.getElem?_cons_zero]; rfl)
  go_simp
  (first | (go_at_call 38; with_reducible refine (rpad2 _ _ (by omega) (by omega)).mono ?_; rintro e w4 ⟨rfl, hb4⟩; have hk4 := Below.trans (by assumption) (hb4.mono (Below.size (by assumption)))) | (go_at_call 38; with_reducible refine (rpad4 _ _ (by omega) (by omega)).mono ?_; rintro e w4 ⟨rfl, hb4⟩; have hk4 := Below.trans (by assumption) (hb4.mono (Below.size (by assumption)))) | (go_at_call 38; with_reducible refine (rpad9 _ _ (by omega) (by omega)).mono ?_; rintro e w4 ⟨rfl, hb4⟩; have hk4 := Below.trans (by assumption) (hb4.mono (Below.size (by assumption))))); go_wp2_with fail
  refine hK.out _ _ ?_ (fun hHeld => ?_)
  · (first | (first | exact hb2.drew | assumption))
  clear hK K
  refine wpAnyH_take (i := 22) (oi := ?o55) (v := ?v55) ?hi55 (by kernel_rfl) (by kernel_rfl) (by kernel_rfl) ?hQ55 (Or.inl ⟨?hw55, ?hy55⟩) (by assumption) ?_
  case hi55 => (simp only [List.getElem?_toArray, List.getElem?_cons_succ, List.getElem?_cons_zero]; rfl)
  case hQ55 => exact fun _ _ _ h => h
  case hw55 => rfl
  case hy55 => (intro w hSw; (try dsimp only at hSw); go_simp; (try with_reducible rfl))
  simp only [Act.put, List.setIfInBounds_toArray, List.set_cons_zero, List.set_cons_succ]
  refine wpAnyH_take (i := 23) (oi := ?o56) (v := ?v56) ?hi56 (by kernel_rfl) (by kernel_rfl) (by kernel_rfl) ?hQ56 (Or.inl ⟨?hw56, ?hy56⟩) (by assumption) ?_
  case hi56 => (simp only [List.getElem?_toArray, List.getElem?_cons_succ, List.getElem?_cons_zero]; rfl)
  case hQ56 => exact fun _ _ _ h => h
  case hw56 => rfl
  case hy56 => (intro w hSw; (try dsimp only at hSw); go_simp; (try with_reducible rfl))
  simp only [Act.put, List.setIfInBounds_toArray, List.set_cons_zero, List.set_cons_succ]
  refine wpAnyH_ready (rs := [26]) (by kernel_rfl) (by simp) ?_
  refine AllReadyH.cons (o := ?o57) ?hi57 (fun K hK => ?_) AllReadyH.nil
  case hi57 => (simp only [List.getElem?_toArray, List.getElem?_cons_succ, List.getElem?_cons_zero]; rfl)
  go_simp
  (first | (go_at_call 38; with_reducible refine (rpad2 _ _ (by omega) (by omega)).mono ?_; rintro e w4 ⟨rfl, hb4⟩; have hk4 := Below.trans (by assumption) (hb4.mono (Below.size (by assumption)))) | (go_at_call 38; with_reducible refine (rpad4 _ _ (by omega) (by omega)).mono ?_; rintro e w4 ⟨rfl, hb4⟩; have hk4 := Below.trans (by assumption) (hb4.mono (Below.size (by assumption)))) | (go_at_call 38; with_reducible refine (rpad9 _ _ (by omega) (by omega)).mono ?_; rintro e w4 ⟨rfl, hb4⟩; have hk4 := Below.trans (by assumption) (hb4.mono (Below.size (by assumption))))); go_wp2_with fail
  refine hK.out _ _ ?_ (fun hHeld => ?_)
  · (first | (first | exact hb2.drew | assumption))
  clear hK K
  refine wpAnyH_take (i := 27) (oi := ?o58) (v := ?v58) ?hi58 (by kernel_rfl) (by kernel_rfl) (by kernel_rfl) ?hQ58 (Or.inl ⟨?hw58, ?hy58⟩) (by assumption) ?_
  case hi58 => (simp only [List.getElem?_toArray, List.getElem?_cons_succ, List.getElem?_cons_zero]; rfl)
  case hQ58 => exact fun _ _ _ h => h
  case hw58 => rfl
  case hy58 => (intro w hSw; (try dsimp only at hSw); go_simp; (try with_reducible rfl))
  simp only [Act.put, List.setIfInBounds_toArray, List.set_cons_zero, List.set_cons_succ]
  refine wpAnyH_take (i := 28) (oi := ?o59) (v := ?v59) ?hi59 (by kernel_rfl) (by kernel_rfl) (by kernel_rfl) ?hQ59 (Or.inl ⟨?hw59, ?hy59⟩) (by assumption) ?_
  case hi59 => (simp only [List.getElem?_toArray, List.getElem?_cons_succ, List.getElem?_cons_zero]; rfl)
  case hQ59 => exact fun _ _ _ h => h
  case hw59 => rfl
  case hy59 => (intro w hSw; (try dsimp only at hSw); go_simp; (try with_reducible rfl))
  simp only [Act.put, List.setIfInBounds_toArray, List.set_cons_zero, List.set_cons_succ]
  refine wpAnyH_ready (rs := [31]) (by kernel_rfl) (by simp) ?_
  refine AllReadyH.cons (o := ?o60) ?hi60 (fun K hK => ?_) AllReadyH.nil
  case hi60 => (simp only [List.getElem?_toArray, List.getElem?_cons_succ, List.getElem?_cons_zero]; rfl)
  go_simp
  (first | (go_at_call 38; with_reducible refine (rpad2 _ _ (by omega) (by omega)).mono ?_; rintro e w4 ⟨rfl, hb4⟩; have hk4 := Below.trans (by assumption) (hb4.mono (Below.size (by assumption)))) | (go_at_call 38; with_reducible refine (rpad4 _ _ (by omega) (by omega)).mono ?_; rintro e w4 ⟨rfl, hb4⟩; have hk4 := Below.trans (by assumption) (hb4.mono (Below.size (by assumption)))) | (go_at_call 38; with_reducible refine (rpad9 _ _ (by omega) (by omega)).mono ?_; rintro e w4 ⟨rfl, hb4⟩; have hk4 := Below.trans (by assumption) (hb4.mono (Below.size (by assumption))))); go_wp2_with fail
  refine hK.out _ _ ?_ (fun hHeld => ?_)
  · (first | (first | exact hb2.drew | assumption))
  clear hK K
  refine wpAnyH_take (i := 32) (oi := ?o61) (v := ?v61) ?hi61 (by kernel_rfl) (by kernel_rfl) (by kernel_rfl) ?hQ61 (Or.inl ⟨?hw61, ?hy61⟩) (by assumption) ?_
  case hi61 => (simp only [List.getElem?_toArray, List.getElem?_cons_succ, List.getElem?_cons_zero]; rfl)
  case hQ61 => exact fun _ _ _ h => h
  case hw61 => rfl
  case hy61 => (intro w hSw; (try dsimp only at hSw); go_simp; (try with_reducible rfl))
  simp only [Act.put, List.setIfInBounds_toArray, List.set_cons_zero, List.set_cons_succ]
  refine wpAnyH_take (i := 33) (oi := ?o62) (v := ?v62) ?hi62 (by kernel_rfl) (by kernel_rfl) (by kernel_rfl) ?hQ62 (Or.inl ⟨?hw62, ?hy62⟩) (by assumption) ?_
  case hi62 => (simp only [List.getElem?_toArray, List.getElem?_cons_succ, List.getElem?_cons_zero]; rfl)
  case hQ62 => exact fun _ _ _ h => h
  case hw62 => rfl
  case hy62 => (intro w hSw; (try dsimp only at hSw); go_simp; (try with_reducible rfl))
  simp only [Act.put, List.setIfInBounds_toArray, List.set_cons_zero, List.set_cons_succ]
  refine wpAnyH_done (by kernel_rfl) ?_ _
  go_wp2_with fail
  go_ret
  exact ⟨by rw [← unhide HJ]; rfl, hb1.trans (Below.mono (B := W0.heap.size) (by assumption) hb1.size)⟩

/-- What digits tell; else -1. -/
def numV (l : List UInt8) : Int := match numL l 0 with | some v => (v : Int) | none => -1
theorem drop_byte (s : ByteArray) (k : Nat) (h : k < s.size) : s.data.toList.drop k = s[k] :: s.data.toList.drop (k + 1) := by
  rw [List.drop_eq_getElem_cons (by simpa using h)]; rfl
theorem num_yes (s : ByteArray) (k a : Nat) (h : k < s.size) (h1 : 48 ≤ s[k].toNat) (h2 : s[k].toNat ≤ 57) : numL (s.data.toList.drop k) a = numL (s.data.toList.drop (k + 1)) (a * 10 + (s[k].toNat - 48)) := by
  rw [drop_byte s k h, numL, if_pos ⟨h1, h2⟩]
theorem num_no (s : ByteArray) (k a : Nat) (h : k < s.size) (h1 : ¬ (48 ≤ s[k].toNat ∧ s[k].toNat ≤ 57)) : numL (s.data.toList.drop k) a = none := by
  rw [drop_byte s k h, numL, if_neg h1]
theorem pow_17 {k : Nat} (h : k ≤ 17) : 10 ^ k ≤ 100000000000000000 := by
  have := Nat.pow_le_pow_right (show 0 < 10 by decide) h
  rwa [show (10 : Nat) ^ 17 = 100000000000000000 from by decide] at this
set_option maxHeartbeats 1000000 in
theorem rdigits_any (s : ByteArray) (w : World) (h18 : s.size ≤ 18) :
    Calls Tryd.prog 39 #[.string s] w fun e w' => e = .returned (.int .i64 (numV s.data.toList)) ∧ w' = w := by
  have HV := hide (show numV s.data.toList = (match numL s.data.toList 0 with | some v => (v : Int) | none => -1) from rfl)
  go_enter Tryd.func39, Tryd.ntmps39
  go_wp2
  go_loop [3, 4] (fun n i => ∃ (pos acc : Nat), i = .int .i64 (pos : Int) ∧ n = .int .i64 (acc : Int) ∧ pos ≤ s.size ∧ acc < 10 ^ pos ∧ Hid (numL (s.data.toList.drop pos) acc = numL s.data.toList 0)) (fun _ i => s.size - (intOf i).toNat)
  case atStart => exact ⟨0, 0, rfl, rfl, by omega, by decide, rfl⟩
  case round =>
    obtain ⟨pos, acc, rfl, rfl, hp, ha, HI⟩ := hrel
    by_cases hlt : pos < s.size
    · have hb17 := pow_17 (show pos ≤ 17 by omega)
      by_cases hd : 48 ≤ s[pos].toNat ∧ s[pos].toNat ≤ 57
      · have HS := hide (num_yes s pos acc hlt hd.1 hd.2)
        have h48 : (48 : Int) ≤ (s[pos].toNat : Int) := by omega
        have h57 : (s[pos].toNat : Int) ≤ 57 := by omega
        have hpw : 10 ^ (pos + 1) = 10 ^ pos * 10 := Nat.pow_succ 10 pos
        have HP := hide hpw
        clear hpw
        go_wp2
        go_round
        case rel => exact ⟨pos + 1, acc * 10 + (s[pos].toNat - 48), by go_num, by go_num, by omega, by rw [unhide HP]; omega, hide (by rw [← unhide HS]; exact unhide HI)⟩
        case measure => simp [intOf]; omega
      · have hN := hide (show numV s.data.toList = -1 from by rw [unhide HV, ← unhide HI, num_no s pos acc hlt hd])
        have hw : (s[pos].toNat : Int) < 48 ∨ 57 < (s[pos].toNat : Int) := by omega
        rcases hw with hw | hw
        all_goals
          go_wp2
          go_ret
          exact ⟨ret_int (unhide hN).symm, rfl⟩
    · have hN := hide (show numV s.data.toList = (acc : Int) from by rw [unhide HV, ← unhide HI, List.drop_eq_nil_of_le (by simp; omega)]; rfl)
      go_wp2
      go_ret
      exact ⟨ret_int (unhide hN).symm, rfl⟩

theorem decFrom_num : ∀ (l : List UInt8) (a : Nat), Lib.decFrom a l = numL l a
  | [], _ => rfl
  | c :: r, a => by
    unfold Lib.decFrom Lib.digitVal
    rw [numL]
    by_cases h : 48 ≤ c.toNat ∧ c.toNat ≤ 57
    · rw [if_pos h, if_pos h]; exact decFrom_num r _
    · rw [if_neg h, if_neg h]
theorem atoi_num {l : List UInt8} {v : Nat} (hl : l ≠ []) (h : numL l 0 = some v) : Lib.atoi l = some (v : Int) := by
  cases l with
  | nil => exact absurd rfl hl
  | cons b r =>
    have hb : 48 ≤ b.toNat ∧ b.toNat ≤ 57 := by
      rw [numL] at h
      by_cases c : 48 ≤ b.toNat ∧ b.toNat ≤ 57
      · exact c
      · rw [if_neg c] at h; cases h
    have h45 : (b == 45) = false := by
      rw [beq_eq_false_iff_ne]; intro e; subst e; exact absurd hb (by decide)
    have h43 : (b == 43) = false := by
      rw [beq_eq_false_iff_ne]; intro e; subst e; exact absurd hb (by decide)
    unfold Lib.atoi
    show (if (b == 45) = true then _ else if (b == 43) = true then _ else _) = _
    rw [h45, h43]
    rw [if_neg (by decide), if_neg (by decide)]
    unfold Lib.decNat
    rw [if_neg (by simp), decFrom_num, h]
    rfl
theorem number_num (s : ByteArray) (w : World) (h18 : s.size ≤ 18) (h0 : 1 ≤ s.size) (h : numL s.data.toList 0 ≠ none) :
    Calls Tryd.prog 37 #[.string s] w fun e w' => e = .returned (.int .i64 (numV s.data.toList)) ∧ Below w.heap.size w w' := by
  obtain ⟨v, hv⟩ := Option.ne_none_iff_exists'.1 h
  have e : numV s.data.toList = (v : Int) := by unfold numV; rw [hv]
  rw [e]
  have hne : s.data.toList ≠ [] := by
    intro e
    have : s.data.toList.length = 0 := by rw [e]; rfl
    rw [Array.length_toList] at this
    have h2 : s.data.size = s.size := rfl
    omega
  have CA := fun w' => hide (Tryd.strconv_Atoi s v h18 (atoi_num hne hv) w')
  clear hv e h
  go_enter Tryd.func37, Tryd.ntmps37
  go_wp2_with (go_at_call 42; refine Hid.out ?_)
  refine hide ?_
  refine (unhide (CA _)).mono ?_
  rintro e w1 ⟨rfl, t, rfl⟩
  go_wp2_with fail
  go_ret
  exact ⟨rfl, Go.Joins.below_bytesWorld _ _ _ _ (Nat.le_refl _)⟩
end Go.Proofs.YtjngnmpjkiafpaaDoor
