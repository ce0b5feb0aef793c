import Derived.Test.YtkglaklkbodjkaaWh7
namespace Go.Proofs.Ytkglaklkbodjkaa
open Go.RowKit Wh

section
variable {B H Mb now n : Nat} {f : Int → Option Int} {sz : Nat} {sv : Nat → Value} {sl : Nat → List Int}
theorem Ok.mono {due : Int → Nat} {b b' : Nat} (h : Ok f due b sl) (hb : b ≤ b') : Ok f due b' sl := fun j hj => ⟨Nat.le_trans (h j hj).1 hb, (h j hj).2⟩
theorem Ok.dealt {due : Int → Nat} (h : Ok f due 5000 sl) (q : Nat) (hq : q ≤ 3) : Ok f due 40000 (dealtF due now sl q) := by
  have h3 : Ok f due 10000 (dealF due now 3 sl) := h.deal 3 (by omega)
  have h2 : Ok f due 20000 (dealF due now 2 (dealF due now 3 sl)) := h3.deal 2 (by omega)
  have h1 : Ok f due 40000 (dealF due now 1 (dealF due now 2 (dealF due now 3 sl))) := h2.deal 1 (by omega)
  rcases (show q = 0 ∨ q = 1 ∨ q = 2 ∨ q = 3 by omega) with rfl | rfl | rfl | rfl
  · exact h1
  · exact h2.mono (by omega)
  · exact h3.mono (by omega)
  · exact h.mono (by omega)
/-- What a round of the inner loop brings. -/
theorem lay_next {w : World} {due : Int → Nat} {lv : Nat} {ids : List Int} {S : Nat → List Int} {k : Nat} {x : Int} (hx : ids[k]? = some x) (hlv : lv < 4) (hB : B ≤ w.heap.size) (hk : Has f due ids) (hl : ids.length ≤ 40000) (hS : ∀ j, j < 64 → (S j).length ≤ 40000)
    (h : Whl w B H Mb now n f sz sv (laidF due lv (ids.take k) S)) :
    Calls Try.prog 50 #[.pointer (some ⟨H, 0, none⟩), .int .i64 x, .int .i64 (lv : Int)] w fun e w' => e = .returned (.tuple #[]) ∧ ∃ sv2, Whl w' B H Mb now n f sz sv2 (laidF due lv (ids.take (k + 1)) S) ∧ Fr w w' (Foot H Mb sv) (Foot H Mb sv2) := by
  have hx1 := hk x (List.mem_of_getElem? hx)
  have hd := dig_lt (due x) lv
  refine (lay_at w h x hx1.1 (due x) hx1.2.1 hx1.2.2 lv (dig (due x) lv) hlv rfl hd hB ?_).mono ?_
  · have h1 := laidF_len due lv (ids.take k) S (16 * lv + dig (due x) lv)
    have h2 := hS (16 * lv + dig (due x) lv) (by omega)
    rw [List.length_take] at h1
    omega
  · rintro e w' ⟨rfl, v, h1, h2⟩
    refine ⟨rfl, _, ?_, h2⟩
    rw [laidF_snoc _ _ _ _ _ _ rfl hd] at h1
    rw [List.take_add_one, hx]
    exact h1
set_option maxRecDepth 100000 in
set_option maxHeartbeats 4000000 in
theorem deal_any (w : World) (h : Whl w B H Mb now n f sz sv sl) (hB : B ≤ w.heap.size) (hnow : now < 1099511627776) (due : Int → Nat) (hok : Ok f due 5000 sl) :
    Calls Try.prog 55 #[.pointer (some ⟨H, 0, none⟩)] w fun e w' => e = .returned (.tuple #[]) ∧ ∃ sv', Whl w' B H Mb now n f sz sv' (dealtF due now sl 0) ∧ Fr w w' (Foot H Mb sv) (Foot H Mb sv') := by
  have HW0 := hide h
  have HOK := hide (fun q hq => hok.dealt (now := now) q hq)
  clear h hok
  go_enter Try.func55, Try.ntmps55
  go_wp2
  go_loopw [2] (fun d w' => ∃ q : Nat, q ≤ 3 ∧ d = .int .i64 (q : Int) ∧ ∃ sv', Hid (Whl w' B H Mb now n f sz sv' (dealtF due now sl q)) ∧ Hid (Fr w w' (Foot H Mb sv) (Foot H Mb sv'))) (fun d _ => (intOf d).toNat)
  case atStart => exact ⟨3, by omega, rfl, sv, HW0, hide (Fr.refl _ _)⟩
  case round =>
    obtain ⟨q, hq, rfl, svq, HW, HF⟩ := hrel
    have c0 := (unhide HW).c0
    rcases (show q = 0 ∨ q = 1 ∨ q = 2 ∨ q = 3 by omega) with rfl | rfl | rfl | rfl
    · go_wp2
      refine bodyPost_end (results_none rfl _ _ _) rfl ?_
      exact ⟨rfl, svq, unhide HW, unhide HF⟩
    · have e9 : (now : Int).tmod 16 = ((now % 16 : Nat) : Int) := by rw [Int.tmod_eq_emod_of_nonneg (by omega)]; omega
      have hdq : dig now 1 < 16 := dig_lt now 1
      by_cases hm : now % 16 = 0
      · have e8 : ((now : Int) % 16 != 0) = false := by rw [bne_eq_false_iff_eq]; omega
        have HM := hide (show dealtF due now sl 0 = laidF due 0 (dealtF due now sl 1 (16 * 1 + dig now 1)) (at1 (dealtF due now sl 1) (16 * 1 + dig now 1) []) from if_pos hm)
        have hO := unhide HOK 1 hq
        obtain ⟨ids, hids⟩ : ∃ ids, dealtF due now sl 1 (16 * 1 + dig now 1) = ids := ⟨_, rfl⟩
        have HH : Hid (Has f due ids) := hide (by rw [← hids]; exact (hO _ (by omega)).2)
        have HLn : Hid (ids.length ≤ 40000) := hide (by rw [← hids]; exact (hO _ (by omega)).1)
        have HSn := hide (fun j (hj : j < 64) => show (at1 (dealtF due now sl 1) (16 * 1 + dig now 1) [] j).length ≤ 40000 from by
          by_cases e : j = 16 * 1 + dig now 1
          · rw [e, at1_same]; exact Nat.zero_le _
          · rw [at1_other _ _ e]; exact (hO j hj).1)
        have HT := hide (fun m => take_any (wr.drewN m) ((unhide HW).below (below_drewN wr m)) hnow 1 (dig now 1) (by omega) rfl hdq)
        obtain ⟨a, cap, hf, -⟩ := ((unhide HW).rows (16 * 1 + dig now 1) (by omega)).form
        rw [hids] at hf HT HM
        rw [hf] at HT
        generalize hS : at1 (dealtF due now sl 1) (16 * 1 + dig now 1) [] = S at *
        generalize hsvS : at1 svq (16 * 1 + dig now 1) (.slice none 0 0) = svS at *
        generalize hN : ids.length = len at *
        have HNN := hide hN
        have HBs : Hid (∀ m, B ≤ (wr.drewN m).heap.size) := hide (fun m => Nat.le_trans hB (unhide HF).size)
        clear hO hids hf hS hsvS hN hm hdq HW0
        go_wp2
        go_quiet (fail)
        go_wp2_with (go_at_call 63; refine (unhide HT nq).mono ?_; rintro e w1 ⟨rfl, K1, K2, K3, K4⟩)
        have HK1 := hide K1
        have HK2 := hide K2
        have HK3 := hide K3
        have HK4 := hide K4
        clear K1 K2 K3 K4 e8 e9 c0
        go_loopw [22] (fun d w' => ∃ k : Nat, k ≤ len ∧ d = .int .i64 (k : Int) ∧ ∃ sv2, Hid (Whl w' B H Mb now n f sz sv2 (laidF due 0 (ids.take k) S)) ∧ Hid (Fr w1 w' (Foot H Mb svS) (Foot H Mb sv2))) (fun d _ => len - (intOf d).toNat)
        case atStart => exact ⟨0, by omega, rfl, svS, hide (by rw [List.take_zero, laidF_nil]; exact unhide HK1), hide (Fr.refl _ _)⟩
        case round =>
          obtain ⟨k, hk, rfl, sv2, HW2, HF2⟩ := hrel
          by_cases hl : k < len
          · obtain ⟨x, hx⟩ : ∃ x, ids[k]? = some x := ⟨ids[k]'(by rw [unhide HNN]; exact hl), List.getElem?_eq_getElem _⟩
            have hrow := (unhide HF2).row (unhide HK3) (unhide HK4)
            obtain ⟨a2, cap2, hf2, hc⟩ := hrow.form
            obtain ⟨g, hg, hcell⟩ := hc k x hx
            have hag : a = some ⟨g, 0, none⟩ := by cases hf2; exact hg
            subst hag
            have HC := hide (lay_next hx (lv := 0) (by omega) (Nat.le_trans (unhide HBs nq) (Nat.le_trans (unhide HK2).size (unhide HF2).size)) (unhide HH) (by rw [unhide HNN]; exact unhide HLn) (unhide HSn) (unhide HW2))
            have hk9 : k < 40000 := by have := unhide HLn; omega
            clear hrow hc hf2 hg hx
            go_wp2_with (go_at_call 50; refine (unhide HC).mono ?_; rintro e w3 ⟨rfl, sv3, Y1, Y2⟩)
            go_roundw
            case rel => exact ⟨k + 1, by omega, by first | rfl | go_num, sv3, hide Y1, hide ((unhide HF2).trans Y2)⟩
            case measure => simp [intOf]; omega
          · have hkl : k = len := by omega
            subst hkl
            have HE : Hid (Whl wr B H Mb now n f sz sv2 (dealtF due now sl 0)) := hide (by
              rw [unhide HM]
              have h9 := unhide HW2
              rw [List.take_of_length_le (by rw [unhide HNN]; exact Nat.le_refl _)] at h9
              exact h9)
            have HE2 := hide ((unhide HF).trans ((Fr.drewN _ (Foot H Mb svq) nq).trans ((unhide HK2).trans (unhide HF2))))
            clear HW2 hl hk HF HF2
            go_wp2
            go_roundw
            case rel => exact ⟨0, by omega, by first | rfl | go_num, sv2, HE, HE2⟩
            case measure => simp [intOf]
      · have e8 : ((now : Int) % 16 != 0) = true := by rw [bne_iff_ne]; omega
        have HM := hide (show dealtF due now sl 0 = dealtF due now sl 1 from if_neg hm)
        clear hm hdq HW0
        go_wp2
        go_quiet (fail)
        go_wp2
        go_roundw
        case rel => exact ⟨0, by omega, by first | rfl | go_num, svq, hide (by rw [unhide HM]; exact (unhide HW).below (below_drewN _ _)), hide ((unhide HF).trans (Fr.drewN _ _ _))⟩
        case measure => simp [intOf]
    · have e9 : (now : Int).tmod 256 = ((now % 256 : Nat) : Int) := by rw [Int.tmod_eq_emod_of_nonneg (by omega)]; omega
      have hdq : dig now 2 < 16 := dig_lt now 2
      by_cases hm : now % 256 = 0
      · have e8 : ((now : Int) % 256 != 0) = false := by rw [bne_eq_false_iff_eq]; omega
        have HM := hide (show dealtF due now sl 1 = laidF due 1 (dealtF due now sl 2 (16 * 2 + dig now 2)) (at1 (dealtF due now sl 2) (16 * 2 + dig now 2) []) from if_pos hm)
        have hO := unhide HOK 2 hq
        obtain ⟨ids, hids⟩ : ∃ ids, dealtF due now sl 2 (16 * 2 + dig now 2) = ids := ⟨_, rfl⟩
        have HH : Hid (Has f due ids) := hide (by rw [← hids]; exact (hO _ (by omega)).2)
        have HLn : Hid (ids.length ≤ 40000) := hide (by rw [← hids]; exact (hO _ (by omega)).1)
        have HSn := hide (fun j (hj : j < 64) => show (at1 (dealtF due now sl 2) (16 * 2 + dig now 2) [] j).length ≤ 40000 from by
          by_cases e : j = 16 * 2 + dig now 2
          · rw [e, at1_same]; exact Nat.zero_le _
          · rw [at1_other _ _ e]; exact (hO j hj).1)
        have HT := hide (fun m => take_any (wr.drewN m) ((unhide HW).below (below_drewN wr m)) hnow 2 (dig now 2) (by omega) rfl hdq)
        obtain ⟨a, cap, hf, -⟩ := ((unhide HW).rows (16 * 2 + dig now 2) (by omega)).form
        rw [hids] at hf HT HM
        rw [hf] at HT
        generalize hS : at1 (dealtF due now sl 2) (16 * 2 + dig now 2) [] = S at *
        generalize hsvS : at1 svq (16 * 2 + dig now 2) (.slice none 0 0) = svS at *
        generalize hN : ids.length = len at *
        have HNN := hide hN
        have HBs : Hid (∀ m, B ≤ (wr.drewN m).heap.size) := hide (fun m => Nat.le_trans hB (unhide HF).size)
        clear hO hids hf hS hsvS hN hm hdq HW0
        go_wp2
        go_quiet (fail)
        go_wp2_with (go_at_call 63; refine (unhide HT nq).mono ?_; rintro e w1 ⟨rfl, K1, K2, K3, K4⟩)
        have HK1 := hide K1
        have HK2 := hide K2
        have HK3 := hide K3
        have HK4 := hide K4
        clear K1 K2 K3 K4 e8 e9 c0
        go_loopw [22] (fun d w' => ∃ k : Nat, k ≤ len ∧ d = .int .i64 (k : Int) ∧ ∃ sv2, Hid (Whl w' B H Mb now n f sz sv2 (laidF due 1 (ids.take k) S)) ∧ Hid (Fr w1 w' (Foot H Mb svS) (Foot H Mb sv2))) (fun d _ => len - (intOf d).toNat)
        case atStart => exact ⟨0, by omega, rfl, svS, hide (by rw [List.take_zero, laidF_nil]; exact unhide HK1), hide (Fr.refl _ _)⟩
        case round =>
          obtain ⟨k, hk, rfl, sv2, HW2, HF2⟩ := hrel
          by_cases hl : k < len
          · obtain ⟨x, hx⟩ : ∃ x, ids[k]? = some x := ⟨ids[k]'(by rw [unhide HNN]; exact hl), List.getElem?_eq_getElem _⟩
            have hrow := (unhide HF2).row (unhide HK3) (unhide HK4)
            obtain ⟨a2, cap2, hf2, hc⟩ := hrow.form
            obtain ⟨g, hg, hcell⟩ := hc k x hx
            have hag : a = some ⟨g, 0, none⟩ := by cases hf2; exact hg
            subst hag
            have HC := hide (lay_next hx (lv := 1) (by omega) (Nat.le_trans (unhide HBs nq) (Nat.le_trans (unhide HK2).size (unhide HF2).size)) (unhide HH) (by rw [unhide HNN]; exact unhide HLn) (unhide HSn) (unhide HW2))
            have hk9 : k < 40000 := by have := unhide HLn; omega
            clear hrow hc hf2 hg hx
            go_wp2_with (go_at_call 50; refine (unhide HC).mono ?_; rintro e w3 ⟨rfl, sv3, Y1, Y2⟩)
            go_roundw
            case rel => exact ⟨k + 1, by omega, by first | rfl | go_num, sv3, hide Y1, hide ((unhide HF2).trans Y2)⟩
            case measure => simp [intOf]; omega
          · have hkl : k = len := by omega
            subst hkl
            have HE : Hid (Whl wr B H Mb now n f sz sv2 (dealtF due now sl 1)) := hide (by
              rw [unhide HM]
              have h9 := unhide HW2
              rw [List.take_of_length_le (by rw [unhide HNN]; exact Nat.le_refl _)] at h9
              exact h9)
            have HE2 := hide ((unhide HF).trans ((Fr.drewN _ (Foot H Mb svq) nq).trans ((unhide HK2).trans (unhide HF2))))
            clear HW2 hl hk HF HF2
            go_wp2
            go_roundw
            case rel => exact ⟨1, by omega, by first | rfl | go_num, sv2, HE, HE2⟩
            case measure => simp [intOf]
      · have e8 : ((now : Int) % 256 != 0) = true := by rw [bne_iff_ne]; omega
        have HM := hide (show dealtF due now sl 1 = dealtF due now sl 2 from if_neg hm)
        clear hm hdq HW0
        go_wp2
        go_quiet (fail)
        go_wp2
        go_roundw
        case rel => exact ⟨1, by omega, by first | rfl | go_num, svq, hide (by rw [unhide HM]; exact (unhide HW).below (below_drewN _ _)), hide ((unhide HF).trans (Fr.drewN _ _ _))⟩
        case measure => simp [intOf]
    · have e9 : (now : Int).tmod 4096 = ((now % 4096 : Nat) : Int) := by rw [Int.tmod_eq_emod_of_nonneg (by omega)]; omega
      have hdq : dig now 3 < 16 := dig_lt now 3
      by_cases hm : now % 4096 = 0
      · have e8 : ((now : Int) % 4096 != 0) = false := by rw [bne_eq_false_iff_eq]; omega
        have HM := hide (show dealtF due now sl 2 = laidF due 2 (dealtF due now sl 3 (16 * 3 + dig now 3)) (at1 (dealtF due now sl 3) (16 * 3 + dig now 3) []) from if_pos hm)
        have hO := unhide HOK 3 hq
        obtain ⟨ids, hids⟩ : ∃ ids, dealtF due now sl 3 (16 * 3 + dig now 3) = ids := ⟨_, rfl⟩
        have HH : Hid (Has f due ids) := hide (by rw [← hids]; exact (hO _ (by omega)).2)
        have HLn : Hid (ids.length ≤ 40000) := hide (by rw [← hids]; exact (hO _ (by omega)).1)
        have HSn := hide (fun j (hj : j < 64) => show (at1 (dealtF due now sl 3) (16 * 3 + dig now 3) [] j).length ≤ 40000 from by
          by_cases e : j = 16 * 3 + dig now 3
          · rw [e, at1_same]; exact Nat.zero_le _
          · rw [at1_other _ _ e]; exact (hO j hj).1)
        have HT := hide (fun m => take_any (wr.drewN m) ((unhide HW).below (below_drewN wr m)) hnow 3 (dig now 3) (by omega) rfl hdq)
        obtain ⟨a, cap, hf, -⟩ := ((unhide HW).rows (16 * 3 + dig now 3) (by omega)).form
        rw [hids] at hf HT HM
        rw [hf] at HT
        generalize hS : at1 (dealtF due now sl 3) (16 * 3 + dig now 3) [] = S at *
        generalize hsvS : at1 svq (16 * 3 + dig now 3) (.slice none 0 0) = svS at *
        generalize hN : ids.length = len at *
        have HNN := hide hN
        have HBs : Hid (∀ m, B ≤ (wr.drewN m).heap.size) := hide (fun m => Nat.le_trans hB (unhide HF).size)
        clear hO hids hf hS hsvS hN hm hdq HW0
        go_wp2
        go_quiet (fail)
        go_wp2_with (go_at_call 63; refine (unhide HT nq).mono ?_; rintro e w1 ⟨rfl, K1, K2, K3, K4⟩)
        have HK1 := hide K1
        have HK2 := hide K2
        have HK3 := hide K3
        have HK4 := hide K4
        clear K1 K2 K3 K4 e8 e9 c0
        go_loopw [22] (fun d w' => ∃ k : Nat, k ≤ len ∧ d = .int .i64 (k : Int) ∧ ∃ sv2, Hid (Whl w' B H Mb now n f sz sv2 (laidF due 2 (ids.take k) S)) ∧ Hid (Fr w1 w' (Foot H Mb svS) (Foot H Mb sv2))) (fun d _ => len - (intOf d).toNat)
        case atStart => exact ⟨0, by omega, rfl, svS, hide (by rw [List.take_zero, laidF_nil]; exact unhide HK1), hide (Fr.refl _ _)⟩
        case round =>
          obtain ⟨k, hk, rfl, sv2, HW2, HF2⟩ := hrel
          by_cases hl : k < len
          · obtain ⟨x, hx⟩ : ∃ x, ids[k]? = some x := ⟨ids[k]'(by rw [unhide HNN]; exact hl), List.getElem?_eq_getElem _⟩
            have hrow := (unhide HF2).row (unhide HK3) (unhide HK4)
            obtain ⟨a2, cap2, hf2, hc⟩ := hrow.form
            obtain ⟨g, hg, hcell⟩ := hc k x hx
            have hag : a = some ⟨g, 0, none⟩ := by cases hf2; exact hg
            subst hag
            have HC := hide (lay_next hx (lv := 2) (by omega) (Nat.le_trans (unhide HBs nq) (Nat.le_trans (unhide HK2).size (unhide HF2).size)) (unhide HH) (by rw [unhide HNN]; exact unhide HLn) (unhide HSn) (unhide HW2))
            have hk9 : k < 40000 := by have := unhide HLn; omega
            clear hrow hc hf2 hg hx
            go_wp2_with (go_at_call 50; refine (unhide HC).mono ?_; rintro e w3 ⟨rfl, sv3, Y1, Y2⟩)
            go_roundw
            case rel => exact ⟨k + 1, by omega, by first | rfl | go_num, sv3, hide Y1, hide ((unhide HF2).trans Y2)⟩
            case measure => simp [intOf]; omega
          · have hkl : k = len := by omega
            subst hkl
            have HE : Hid (Whl wr B H Mb now n f sz sv2 (dealtF due now sl 2)) := hide (by
              rw [unhide HM]
              have h9 := unhide HW2
              rw [List.take_of_length_le (by rw [unhide HNN]; exact Nat.le_refl _)] at h9
              exact h9)
            have HE2 := hide ((unhide HF).trans ((Fr.drewN _ (Foot H Mb svq) nq).trans ((unhide HK2).trans (unhide HF2))))
            clear HW2 hl hk HF HF2
            go_wp2
            go_roundw
            case rel => exact ⟨2, by omega, by first | rfl | go_num, sv2, HE, HE2⟩
            case measure => simp [intOf]
      · have e8 : ((now : Int) % 4096 != 0) = true := by rw [bne_iff_ne]; omega
        have HM := hide (show dealtF due now sl 2 = dealtF due now sl 3 from if_neg hm)
        clear hm hdq HW0
        go_wp2
        go_quiet (fail)
        go_wp2
        go_roundw
        case rel => exact ⟨2, by omega, by first | rfl | go_num, svq, hide (by rw [unhide HM]; exact (unhide HW).below (below_drewN _ _)), hide ((unhide HF).trans (Fr.drewN _ _ _))⟩
        case measure => simp [intOf]
end
end Go.Proofs.Ytkglaklkbodjkaa
