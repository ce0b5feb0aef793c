import Derived.Test.YtkglaklkbodjkaaL12PlaysA
import Derived.Deep.DeepCutAuto
import Derived.Deep.CutBlock
namespace Go.Proofs.Ytkglaklkbodjkaa
open Go.RowKit Kt

set_option maxRecDepth 100000 in
set_option maxHeartbeats 16000000 in
theorem lplays12_short (le gr : Int) (p : Option Addr) (len cap : Nat) (kd kn kt : Nat → Int) (w : World) (hlen : len ≤ 100) (h0 : 0 ≤ le) (h1 : le ≤ gr) (h2 : 1 ≤ gr) (h3 : gr ≤ 1099511627776)
    (hk : ∀ i, i < len → 0 ≤ kd i ∧ kd i ≤ 255)
    (hc : ∀ i, i < len → ∃ x, p = some x ∧ x.block < w.heap.size ∧ w.cell? (x.add (i * 3)) = some (.int .u8 (kd i)) ∧ w.cell? (x.add (i * 3 + 1)) = some (.int .i64 (kn i)) ∧ w.cell? (x.add (i * 3 + 2)) = some (.int .i64 (kt i))) :
    Calls Try.prog 8 #[.int .i64 le, .int .i64 gr, .slice p len cap] w fun e w' => e = .returned (.bool true) ∧ Below w.heap.size w w' := by
  have CF := hide (fixed12 w)
  have CN := fun w' => hide (dnew_any le gr w' h0 h1 h2 h3)
  obtain ⟨B, hB⟩ : ∃ B, w.heap.size = B := ⟨_, rfl⟩
  rw [hB] at hc
  have hc := hide hc
  have hk := hide hk
  have hl2 : ((len : Nat) : Int) ≤ 100 := by omega
  have hd1 : decide (le < 0) = false := decide_eq_false (by omega)
  have hd2 : decide (gr < le) = false := decide_eq_false (by omega)
  have hd3 : decide (gr < 1) = false := decide_eq_false (by omega)
  have hd4 : decide (1099511627776 < gr) = false := decide_eq_false (by omega)
  go_enter Try.func8, Try.ntmps8
  go_wp2_with (first | (go_at_call 36; refine (unhide CF).mono ?_; rintro e w1 ⟨rfl, hb1⟩) | (go_at_call 37; refine Hid.out ?_))
  refine hide ?_
  refine (unhide (CN _)).mono ?_
  rintro e w2 ⟨rfl, d2, hb2⟩
  rw [hB] at hb1
  obtain ⟨g, hg⟩ : ∃ g, w1.heap.size = g := ⟨_, rfl⟩
  rw [hg] at d2 hb2 ⊢
  have HH0 : Hid (DB B w w2 g le gr true false (armT false 0) false) := hide ⟨d2, hb1.trans (hb2.mono (by have := hb1.size; omega)), by have := hb1.size; omega, by have := hb1.size; have := hb2.size; omega⟩
  clear d2 hb1 hb2 CF CN
  go_wp2_with fail
  go_loopw [10, 11, 12, 13, 73] (fun s10 s11 s12 s13 d w' => ∃ (i : Nat) (t : Int) (ar la ov : Bool), d = .int .i64 (i : Int) ∧ i ≤ len ∧ s10 = .int .i64 t ∧ s11 = .bool ar ∧ s12 = .bool la ∧ s13 = .bool ov ∧ Hid (DB B w w' g le gr (!ov) ar (armT ar t) la)) (fun _ _ _ _ d _ => len - (intOf d).toNat)
  case atStart => exact ⟨0, 0, false, false, false, rfl, by omega, rfl, rfl, rfl, rfl, HH0⟩
  case round =>
    obtain ⟨i, t, ar, la, ov, rfl, hi, rfl, rfl, rfl, rfl, HI⟩ := hrel
    by_cases hlt : i < len
    · obtain ⟨x, rfl, hx, hc0, hc1, hc2⟩ := (unhide hc) i hlt
      have hol : ∀ k v, k ≠ 0 → w.cell? (x.add (i * 3 + k)) = some v → wr.cell? ⟨(x.add (i * 3)).block, (x.add (i * 3)).off + k, none⟩ = some v := fun k v hk0 h => by
        have e2 : wr.cell? (x.add (i * 3 + k)) = some v := by rw [(unhide HI).low.cell (p := x.add (i * 3 + k)) (by unfold Addr.add; split <;> exact hx)]; exact h
        rw [← Go.Deep.add_add] at e2
        unfold Addr.add at e2
        rw [if_neg hk0] at e2
        exact e2
      have e0 : wr.cell? (x.add (i * 3)) = some (.int .u8 (kd i)) := by rw [(unhide HI).low.cell (p := x.add (i * 3)) (by unfold Addr.add; split <;> exact hx)]; exact hc0
      have e1 := hol 1 _ (by omega) hc1
      have e2 := hol 2 _ (by omega) hc2
      have hkd := (unhide hk) i hlt
      clear hc0 hc1 hc2 hol HH0
      generalize kd i = K at *
      generalize kn i = Nw at *
      generalize kt i = T at *
      have H3 : Hid (DB B w (wr.alloc (.cells #[.int .u8 K, .int .i64 Nw, .int .i64 T] 68)) g le gr (!ov) ar (armT ar t) la) := hide ((unhide HI).below (Below.alloc (Below.refl _ _) (Nat.le_refl _) _))
      have e6 : K.tmod 7 = K % 7 := Int.tmod_eq_emod_of_nonneg hkd.1
      have hmd : K % 7 = 0 ∨ K % 7 = 1 ∨ K % 7 = 2 ∨ K % 7 = 3 ∨ K % 7 = 4 ∨ K % 7 = 5 ∨ K % 7 = 6 := by omega
      have CC := fun w' => hide (rclamp_any T w')
      have CC2 := fun w' => hide (rclamp_any Nw w')
      have CL := fun w' => hide (radd_any Nw le w')
      have CG := fun w' => hide (radd_any Nw gr w')
      have HA := hide (fun h => @aim_when le gr Nw T h)
      have HA2 := hide (fun h => @aim_never le gr Nw T h)
      have HND := hide (never_dec T)
      clear HI
      obtain ⟨Z, hZ⟩ : ∃ Z, clampZ T = Z := ⟨_, rfl⟩
      obtain ⟨lo, hlo⟩ : ∃ Z, addZ Nw le = Z := ⟨_, rfl⟩
      obtain ⟨hiv, hhi⟩ : ∃ Z, addZ Nw gr = Z := ⟨_, rfl⟩
      rw [hZ, hlo, hhi] at HA
      rw [hZ] at CC
      rw [hlo] at CL
      rw [hhi] at CG
      clear hZ hlo hhi
      go_upto_if 86 with (first
        | (go_at_call 41; refine (unhide (CC _)).mono ?_; rintro e w4 ⟨rfl, rfl⟩)
        | (go_at_call 42; refine (unhide (CL _)).mono ?_; rintro e w5 ⟨rfl, rfl⟩))
      go_cut [16] (fun s16 wx => s16 = .int .i64 (max Z lo) ∧ wx = wr.alloc (.cells #[.int .u8 K, .int .i64 Nw, .int .i64 T] 68))
      case first =>
        by_cases hzl : Z < lo
        · go_wp2_with fail
          go_meet
          exact ⟨by rw [Int.max_eq_right (by omega)], rfl⟩
        · go_wp2_with fail
          go_meet
          exact ⟨by rw [Int.max_eq_left (by omega)], rfl⟩
      case rest =>
        obtain ⟨rfl, rfl⟩ := hcut
        clear CC
        go_upto_if 94 with (first
          | (go_at_call 41; refine (unhide (CC _)).mono ?_; rintro e w4 ⟨rfl, rfl⟩)
          | (go_at_call 42; refine (unhide (CG _)).mono ?_; rintro e w5 ⟨rfl, rfl⟩))
        obtain ⟨Wn, hWn⟩ : ∃ Wn, min (max Z lo) hiv = Wn := ⟨_, rfl⟩
        rw [hWn] at HA
        go_cut [16] (fun s16 wx => s16 = .int .i64 Wn ∧ wx = wr.alloc (.cells #[.int .u8 K, .int .i64 Nw, .int .i64 T] 68))
        case first =>
          generalize max Z lo = Mx at *
          by_cases hzl : hiv < Mx
          · go_wp2_with fail
            go_meet
            exact ⟨by rw [← hWn, Int.min_eq_right (by omega)], rfl⟩
          · go_wp2_with fail
            go_meet
            exact ⟨by rw [← hWn, Int.min_eq_left (by omega)], rfl⟩
        case rest =>
          obtain ⟨rfl, rfl⟩ := hcut
          clear hWn CL CG
          generalize max Z lo = Mx at *
          obtain ⟨nv, hnv⟩ : ∃ nv, neverB T = nv := ⟨_, rfl⟩
          obtain ⟨Az, hAz⟩ : ∃ Az, aimZ le gr Nw T = Az := ⟨_, rfl⟩
          obtain ⟨Cn, hCn⟩ : ∃ Cn, clampZ Nw = Cn := ⟨_, rfl⟩
          have CP := fun w' h => hide (@program_on g le gr (armT ar t) ar la Nw T w' h)
          have CPO := fun w' h => hide (@program_off g le gr (armT ar t) ar la Nw T w' h)
          have CSO := fun w' h => hide (@sooner_off g le gr (armT ar t) ar la Nw T w' h)
          have CSN := fun w' h hn => hide (@sooner_no g le gr t la Nw T w' h hn)
          have CSY := fun w' h hn => hide (@sooner_yes g le gr (armT ar t) ar la Nw T w' h hn)
          have CPF := fun w' h => hide (@pass_off g le gr 0 (!ov) la Nw w' h)
          have CPY := fun w' h hn => hide (@pass_yes g le gr t (!ov) la Nw w' h hn)
          have CPL := fun w' h hn => hide (@pass_late g le gr t (!ov) la Nw w' h hn)
          rw [hnv] at HA HA2 CP CSN CSY HND
          rw [hAz] at HA HA2 CP CSN CSY
          rw [hCn] at CC2 CPY CPL
          clear hnv hAz hCn
          have hnd := unhide HND
          go_upto_block 2 with fail
          go_cut [10, 11, 12, 13, 20, 101] (fun s10 s11 s12 s13 s20 _ wx => ∃ (t : Int) (ar la ov : Bool), s10 = .int .i64 t ∧ s11 = .bool ar ∧ s12 = .bool la ∧ s13 = .bool ov ∧ s20 = .bool true ∧ Hid (DB B w wx g le gr (!ov) ar (armT ar t) la))
          case first =>
            rcases hmd with hmd | hmd | hmd | hmd | hmd | hmd | hmd
            · as_aux_lemma =>
                cases ov
                · have C := CP _ (unhide H3).dev
                  clear CP CPO CSO CSN CSY CPF CPY CPL CC2
                  cases nv
                  · obtain rfl : Az = Wn := unhide HA rfl
                    go_wp2_with (go_at_call 43; refine Hid.out ?_)
                    refine hide ?_
                    refine (unhide C).mono ?_
                    rintro e w5 ⟨rfl, d5, t5⟩
                    have H5 := hide ((unhide H3).step d5 t5)
                    clear d5 t5 H3 C
                    go_wp2_with fail
                    go_meet
                    exact ⟨Az, true, la, false, rfl, rfl, rfl, rfl, rfl, H5⟩
                  · obtain rfl : Az = 0 := unhide HA2 rfl
                    go_wp2_with (go_at_call 43; refine Hid.out ?_)
                    refine hide ?_
                    refine (unhide C).mono ?_
                    rintro e w5 ⟨rfl, d5, t5⟩
                    have H5 := hide ((unhide H3).step d5 t5)
                    clear d5 t5 H3 C
                    go_wp2_with fail
                    go_meet
                    exact ⟨t, false, la, false, rfl, rfl, rfl, rfl, rfl, H5⟩
                · have C := CPO _ (unhide H3).dev
                  clear CP CPO CSO CSN CSY CPF CPY CPL CC2
                  go_wp2_with (go_at_call 43; refine Hid.out ?_)
                  refine hide ?_
                  refine (unhide C).mono ?_
                  rintro e w5 ⟨rfl, rfl⟩
                  clear C
                  go_wp2_with fail
                  go_meet
                  exact ⟨t, ar, la, true, rfl, rfl, rfl, rfl, rfl, H3⟩
            · as_aux_lemma =>
                cases ov
                · cases nv
                  · obtain rfl : Az = Wn := unhide HA rfl
                    cases ar
                    · have C := CSY _ (unhide H3).dev (.inl rfl)
                      clear CP CPO CSO CSN CSY CPF CPY CPL CC2
                      go_wp2_with (go_at_call 44; refine Hid.out ?_)
                      refine hide ?_
                      refine (unhide C).mono ?_
                      rintro e w5 ⟨rfl, d5, t5⟩
                      have H5 := hide ((unhide H3).step d5 t5)
                      clear d5 t5 H3 C
                      go_wp2_with fail
                      go_meet
                      exact ⟨Az, true, la, false, rfl, rfl, rfl, rfl, rfl, H5⟩
                    · by_cases hlt2 : Az < t
                      · have C := CSY _ (unhide H3).dev (.inr ⟨rfl, show ¬ t ≤ Az by omega⟩)
                        clear CP CPO CSO CSN CSY CPF CPY CPL CC2
                        go_wp2_with (go_at_call 44; refine Hid.out ?_)
                        refine hide ?_
                        refine (unhide C).mono ?_
                        rintro e w5 ⟨rfl, d5, t5⟩
                        have H5 := hide ((unhide H3).step d5 t5)
                        clear d5 t5 H3 C
                        go_wp2_with fail
                        go_meet
                        exact ⟨Az, true, la, false, rfl, rfl, rfl, rfl, rfl, H5⟩
                      · have C := CSN _ (unhide H3).dev (.inr (by omega))
                        clear CP CPO CSO CSN CSY CPF CPY CPL CC2
                        go_wp2_with (go_at_call 44; refine Hid.out ?_)
                        refine hide ?_
                        refine (unhide C).mono ?_
                        rintro e w5 ⟨rfl, d5, t5⟩
                        have H5 := hide ((unhide H3).step d5 t5)
                        clear d5 t5 H3 C
                        go_wp2_with fail
                        go_meet
                        exact ⟨t, true, la, false, rfl, rfl, rfl, rfl, rfl, H5⟩
                  · obtain rfl : Az = 0 := unhide HA2 rfl
                    cases ar
                    · have C := CSY _ (unhide H3).dev (.inl rfl)
                      clear CP CPO CSO CSN CSY CPF CPY CPL CC2
                      go_wp2_with (go_at_call 44; refine Hid.out ?_)
                      refine hide ?_
                      refine (unhide C).mono ?_
                      rintro e w5 ⟨rfl, d5, t5⟩
                      have H5 := hide ((unhide H3).step d5 t5)
                      clear d5 t5 H3 C
                      go_wp2_with fail
                      go_meet
                      exact ⟨t, false, la, false, rfl, rfl, rfl, rfl, rfl, H5⟩
                    · have C := CSN _ (unhide H3).dev (.inl rfl)
                      clear CP CPO CSO CSN CSY CPF CPY CPL CC2
                      go_wp2_with (go_at_call 44; refine Hid.out ?_)
                      refine hide ?_
                      refine (unhide C).mono ?_
                      rintro e w5 ⟨rfl, d5, t5⟩
                      have H5 := hide ((unhide H3).step d5 t5)
                      clear d5 t5 H3 C
                      go_wp2_with fail
                      go_meet
                      exact ⟨t, true, la, false, rfl, rfl, rfl, rfl, rfl, H5⟩
                · have C := CSO _ (unhide H3).dev
                  clear CP CPO CSO CSN CSY CPF CPY CPL CC2
                  go_wp2_with (go_at_call 44; refine Hid.out ?_)
                  refine hide ?_
                  refine (unhide C).mono ?_
                  rintro e w5 ⟨rfl, rfl⟩
                  clear C
                  go_wp2_with fail
                  go_meet
                  exact ⟨t, ar, la, true, rfl, rfl, rfl, rfl, rfl, H3⟩
            · as_aux_lemma =>
                cases ar
                · have C := CPF _ (unhide H3).dev
                  clear CP CPO CSO CSN CSY CPF CPY CPL
                  go_wp2_with (first | (go_at_call 41; refine (unhide (CC2 _)).mono ?_; rintro e w4 ⟨rfl, rfl⟩) | (go_at_call 39; refine Hid.out ?_))
                  refine hide ?_
                  refine (unhide C).mono ?_
                  rintro e w5 ⟨rfl, d5, t5⟩
                  have H5 := hide ((unhide H3).step d5 t5)
                  clear d5 t5 H3 C
                  go_wp2_with fail
                  go_meet
                  exact ⟨t, false, la, ov, rfl, rfl, rfl, rfl, rfl, H5⟩
                · by_cases hle : t ≤ Cn
                  · have hdl : decide (t ≤ Cn) = true := decide_eq_true hle
                    have C := CPY _ (unhide H3).dev hle
                    clear CP CPO CSO CSN CSY CPF CPY CPL
                    go_wp2_with (first | (go_at_call 41; refine (unhide (CC2 _)).mono ?_; rintro e w4 ⟨rfl, rfl⟩) | (go_at_call 39; refine Hid.out ?_))
                    refine hide ?_
                    refine (unhide C).mono ?_
                    rintro e w5 ⟨rfl, d5, t5⟩
                    have H5 := hide ((unhide H3).step d5 t5)
                    clear d5 t5 H3 C
                    go_wp2_with fail
                    go_meet
                    exact ⟨t, false, true, ov, rfl, rfl, rfl, rfl, rfl, H5⟩
                  · have hdl : decide (t ≤ Cn) = false := decide_eq_false hle
                    have C := CPL _ (unhide H3).dev hle
                    clear CP CPO CSO CSN CSY CPF CPY CPL
                    go_wp2_with (first | (go_at_call 41; refine (unhide (CC2 _)).mono ?_; rintro e w4 ⟨rfl, rfl⟩) | (go_at_call 39; refine Hid.out ?_))
                    refine hide ?_
                    refine (unhide C).mono ?_
                    rintro e w5 ⟨rfl, d5, t5⟩
                    have H5 := hide ((unhide H3).step d5 t5)
                    clear d5 t5 H3 C
                    go_wp2_with fail
                    go_meet
                    exact ⟨t, true, la, ov, rfl, rfl, rfl, rfl, rfl, H5⟩
            · as_aux_lemma =>
                have C := hide (take_any _ (unhide H3).dev)
                clear CP CPO CSO CSN CSY CPF CPY CPL CC2
                go_wp2_with (go_at_call 45; refine Hid.out ?_)
                refine hide ?_
                refine (unhide C).mono ?_
                rintro e w5 ⟨rfl, d5, t5⟩
                have H5 := hide ((unhide H3).step d5 t5)
                clear d5 t5 H3 C
                go_wp2_with fail
                go_meet
                exact ⟨t, ar, false, ov, rfl, rfl, rfl, rfl, (by simp), H5⟩
            · as_aux_lemma =>
                have C := hide (stop_any _ (unhide H3).dev)
                clear CP CPO CSO CSN CSY CPF CPY CPL CC2
                go_wp2_with (go_at_call 46; refine Hid.out ?_)
                refine hide ?_
                refine (unhide C).mono ?_
                rintro e w5 ⟨rfl, d5, t5⟩
                have H5 := hide ((unhide H3).step d5 t5)
                clear d5 t5 H3 C
                go_wp2_with fail
                go_meet
                exact ⟨t, false, la, ov, rfl, rfl, rfl, rfl, rfl, H5⟩
            · as_aux_lemma =>
                have C := hide (off_any _ (unhide H3).dev)
                clear CP CPO CSO CSN CSY CPF CPY CPL CC2
                go_wp2_with (go_at_call 47; refine Hid.out ?_)
                refine hide ?_
                refine (unhide C).mono ?_
                rintro e w5 ⟨rfl, d5, t5⟩
                have H5 := hide ((unhide H3).step d5 t5)
                clear d5 t5 H3 C
                go_wp2_with fail
                go_meet
                exact ⟨t, false, false, true, rfl, rfl, rfl, rfl, rfl, H5⟩
            · as_aux_lemma =>
                have C := hide (on_any _ (unhide H3).dev)
                clear CP CPO CSO CSN CSY CPF CPY CPL CC2
                go_wp2_with (go_at_call 48; refine Hid.out ?_)
                refine hide ?_
                refine (unhide C).mono ?_
                rintro e w5 ⟨rfl, d5, t5⟩
                have H5 := hide ((unhide H3).step d5 t5)
                clear d5 t5 H3 C
                go_wp2_with fail
                go_meet
                exact ⟨t, ar, la, false, rfl, rfl, rfl, rfl, rfl, H5⟩
          case rest => as_aux_lemma =>
            clear CP CPO CSO CSN CSY CPF CPY CPL CC2 H3 e0 e1 e2 HA HA2 HND hnd e6 hmd hkd
            obtain ⟨t, ar, la, ov, rfl, rfl, rfl, rfl, rfl, H4⟩ := hcut
            have C := hide (armed_any _ (unhide H4).dev)
            generalize hat : armT ar t = at4 at *
            have Hat := hide hat
            clear hat
            go_wp2_with (go_at_call 38; refine Hid.out ?_)
            refine hide ?_
            refine (unhide C).mono ?_
            rintro e w5 ⟨rfl, b5⟩
            have H5 := hide ((unhide H4).below b5)
            have CL := hide (latched_any _ (unhide H5).dev)
            have CV := hide (live_any _ (unhide H5).dev)
            clear b5 H4 C
            cases ar
            · obtain rfl : 0 = at4 := unhide Hat
              cases la
              all_goals cases ov
              all_goals
                go_wp2_with (first | (go_at_call 40; refine (unhide CL).mono ?_; rintro e w6 ⟨rfl, rfl⟩) | (go_at_call 49; refine (unhide CV).mono ?_; rintro e w6 ⟨rfl, rfl⟩))
                go_roundw
                case rel => exact ⟨i + 1, t, false, _, _, by go_num, by omega, rfl, rfl, rfl, rfl, H5⟩
                case measure => simp [intOf]; omega
            · obtain rfl : t = at4 := unhide Hat
              cases la
              all_goals cases ov
              all_goals
                go_wp2_with (first | (go_at_call 40; refine (unhide CL).mono ?_; rintro e w6 ⟨rfl, rfl⟩) | (go_at_call 49; refine (unhide CV).mono ?_; rintro e w6 ⟨rfl, rfl⟩))
                go_roundw
                case rel => exact ⟨i + 1, t, true, _, _, by go_num, by omega, rfl, rfl, rfl, rfl, H5⟩
                case measure => simp [intOf]; omega
    · obtain rfl : i = len := by omega
      have HE := hide (unhide HI).low
      clear HI HH0
      go_wp2_with fail
      go_ret
      exact ⟨rfl, by rw [hB]; exact unhide HE⟩
end Go.Proofs.Ytkglaklkbodjkaa
