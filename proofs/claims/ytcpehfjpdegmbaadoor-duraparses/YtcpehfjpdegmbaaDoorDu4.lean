import Derived.Test.YtcpehfjpdegmbaaDoorDu3
namespace Go.Proofs.YtcpehfjpdegmbaaDoor
open Go.RowKit Kt Dg Du
set_option maxHeartbeats 1000000 in
theorem sum_any (l : List UInt8) (w : World) (ht : DTab w) (hl : l.length ≤ 1000000000) :
    Calls Tryd.prog 23 #[.string (bs l)] w fun e w' => e = .returned (.tuple #[.int .i64 (sumZ l).1, .bool (sumZ l).2]) ∧ Below w.heap.size w w' := by
  have HO := hide (stP_ok l hl)
  have HS := hide (stP_succ l)
  have HF := hide (sum_fin l)
  have H0 := hide (stP_zero l)
  have S0 := Below.refl w.heap.size w
  have CU := fun w' => hide (units_any w')
  have HIX := hide index_unit
  obtain ⟨UV, hUV⟩ : ∃ U, unitsV = U := ⟨_, rfl⟩
  rw [hUV] at CU HIX
  clear hUV
  generalize stP l = st at *
  generalize sumZ l = Z at *
  go_enter Tryd.func23, Tryd.ntmps23
  go_wp2_with (go_at_call 16; refine (unhide (CU _)).mono ?_; rintro e w4 ⟨rfl, hb4⟩; have hk4 := Below.trans (by assumption) (hb4.mono (Below.size (by assumption))))
  go_loopw [0, 4, 5, 14] (fun a b c d w' => ∃ (i : Nat) (x : List UInt8) (t : Int) (f : Bool), a = .string (bs x) ∧ b = .int .i64 t ∧ c = .bool f ∧ d = .int .i64 (i : Int) ∧ i ≤ 7 ∧ Hid (st i = (x, t, f)) ∧ Below w.heap.size w w') (fun _ _ _ d _ => 7 - (intOf d).toNat)
  case atStart => exact ⟨0, l, 0, false, rfl, rfl, rfl, rfl, by omega, H0, by assumption⟩
  case round =>
    obtain ⟨i, x, t, f, rfl, rfl, rfl, rfl, hi, HX, hb⟩ := hrel
    by_cases hlt : i < 7
    · have ho := (unhide HO) i hi
      have hs := (unhide HS) i hlt
      rw [unhide HX] at ho hs
      obtain ⟨o1, o2, o3⟩ := ho
      simp only at o1 o2 o3
      have hix := fun w' => (unhide HIX) i hlt w'
      have CF := hide (first_any x wr o1)
      have HC := hide (fun w' (hb' : Below w.heap.size w w') => (ht.on hb').cell i hlt)
      rw [unit_name i hlt] at HC
      obtain ⟨k1, k2, _, _⟩ := units_ok _ (unit_mem i hlt)
      generalize unitAt i = u at *
      obtain ⟨z, n⟩ := u
      simp only at k1 k2 hix HC
      have CW := fun w' => hide (written_any (dg x) w' (by have := tw_le isD x; unfold dg; omega))
      have CA := fun w' h => hide (atoi_any x w' h)
      have HR : Hid (st (i + 1) = if nm x = n ∧ writtenB (dg x) = true then (rs x, addZ t (mulZ z (numN (dg x) : Int)), true) else (x, t, f)) := hide (by rw [hs]; rfl)
      have HL := hide (fun h => numN_lt x ((written_iff _).1 h).2.1)
      clear hs
      generalize dg x = D at *
      generalize nm x = M at *
      generalize rs x = R at *
      generalize numN D = V at *
      generalize writtenB D = W at *
      by_cases hn : M = n
      · have hne : ((bs M).toList == (bs n).toList) = true := by rw [hn]; simp
        have hnn : ((bs M).toList != (bs n).toList) = false := by rw [hn]; simp
        have HN := hide hn
        clear hn
        cases W
        · have HR2 := hide (show st (i + 1) = (x, t, f) by rw [unhide HR, if_neg (by simp)])
          clear HR CA HL
          go_wp2_with (first | (go_at_call 30; refine (unhide CF).mono ?_; rintro e w4 ⟨rfl, hb4⟩; have hk4 := Below.trans (by assumption) (hb4.mono (Below.size (by assumption))); have hc4 := (unhide HC) w4 hk4) | (go_at_call 31; refine (unhide (CW _)).mono ?_; rintro e w' ⟨rfl, rfl⟩))
          go_roundw
          case rel => exact ⟨i + 1, x, t, f, rfl, rfl, rfl, by go_num, by omega, HR2, by assumption⟩
          case measure => simp [intOf]; omega
        · have HR2 := hide (show st (i + 1) = (R, addZ t (mulZ z (V : Int)), true) by rw [unhide HR, if_pos ⟨unhide HN, rfl⟩])
          have CA2 := fun w' => CA w' rfl
          have hV := (unhide HL) rfl
          clear HR CA HL
          go_wp2_with (first | (go_at_call 30; refine (unhide CF).mono ?_; rintro e w4 ⟨rfl, hb4⟩; have hk4 := Below.trans (by assumption) (hb4.mono (Below.size (by assumption))); have hc4 := (unhide HC) w4 hk4) | (go_at_call 31; refine (unhide (CW _)).mono ?_; rintro e w' ⟨rfl, rfl⟩) | (go_at_call 32; refine (unhide (CA2 _)).mono ?_; rintro e w4 ⟨rfl, hb4⟩; have hk4 := Below.trans (by assumption) (hb4.mono (Below.size (by assumption)))) | (go_at_call 34; refine (mul_any _ _ _ (by omega) (by omega)).mono ?_; rintro e w' ⟨rfl, rfl⟩) | (go_at_call 33; refine (add_world _ _ _).mono ?_; rintro e w' ⟨rfl, rfl⟩))
          go_roundw
          case rel => exact ⟨i + 1, R, _, true, rfl, rfl, rfl, by go_num, by omega, HR2, by assumption⟩
          case measure => simp [intOf]; omega
      · have HR2 := hide (show st (i + 1) = (x, t, f) by rw [unhide HR, if_neg (fun h => hn h.1)])
        have hne : ((bs M).toList == (bs n).toList) = false := bs_ne hn
        have hnn : ((bs M).toList != (bs n).toList) = true := by rw [bne, hne]; rfl
        clear HR CA HL hn
        go_wp2_with (first | (go_at_call 30; refine (unhide CF).mono ?_; rintro e w4 ⟨rfl, hb4⟩; have hk4 := Below.trans (by assumption) (hb4.mono (Below.size (by assumption))); have hc4 := (unhide HC) w4 hk4) | (go_at_call 31; refine (unhide (CW _)).mono ?_; rintro e w' ⟨rfl, rfl⟩))
        go_roundw
        case rel => exact ⟨i + 1, x, t, f, rfl, rfl, rfl, by go_num, by omega, HR2, by assumption⟩
        case measure => simp [intOf]; omega
    · have hf := unhide HF
      obtain rfl : i = 7 := by omega
      rw [unhide HX] at hf
      by_cases h1 : f = true ∧ x = []
      · obtain ⟨rfl, rfl⟩ := h1
        have HZ := hide (show Z = (t, true) by rw [hf]; rfl)
        clear hf
        have he : (bs []).toList.isEmpty = true := by rw [toL_eq]; rfl
        generalize bs [] = s at *
        go_wp2_with fail
        go_ret2
        exact ⟨by rw [unhide HZ]; rfl, hb⟩
      · have HZ := hide (show Z = (0, false) by rw [hf]; unfold fin; rw [if_neg h1])
        clear hf
        cases f
        · clear h1
          go_wp2_with fail
          go_ret2
          exact ⟨by rw [unhide HZ]; rfl, hb⟩
        · have he : (bs x).toList.isEmpty = false := by rw [toL_eq, List.isEmpty_eq_false_iff]; exact fun e => h1 ⟨rfl, e⟩
          clear h1
          go_wp2_with fail
          go_ret2
          exact ⟨by rw [unhide HZ]; rfl, hb⟩
end Go.Proofs.YtcpehfjpdegmbaaDoor
