import Derived.Test.YtjngnmpjkiafpaaDoorCvFm
namespace Go.Proofs.YtjngnmpjkiafpaaDoor
open Go.RowKit Cv Dg

theorem form_at (p : Nat) (h : p < (⟨#[48, 48, 48, 48, 45, 48, 48, 45, 48, 48, 84, 48, 48, 58, 48, 48, 58, 48, 48, 46, 48, 48, 48, 48, 48, 48, 48, 48, 48]⟩ : ByteArray).size) : (⟨#[48, 48, 48, 48, 45, 48, 48, 45, 48, 48, 84, 48, 48, 58, 48, 48, 58, 48, 48, 46, 48, 48, 48, 48, 48, 48, 48, 48, 48]⟩ : ByteArray)[p] = formL.getD p 0 := by
  have h' : p < 29 := h
  rcases (show p = 0 ∨ p = 1 ∨ p = 2 ∨ p = 3 ∨ p = 4 ∨ p = 5 ∨ p = 6 ∨ p = 7 ∨ p = 8 ∨ p = 9 ∨ p = 10 ∨ p = 11 ∨ p = 12 ∨ p = 13 ∨ p = 14 ∨ p = 15 ∨ p = 16 ∨ p = 17 ∨ p = 18 ∨ p = 19 ∨ p = 20 ∨ p = 21 ∨ p = 22 ∨ p = 23 ∨ p = 24 ∨ p = 25 ∨ p = 26 ∨ p = 27 ∨ p = 28 by omega) with rfl | rfl | rfl | rfl | rfl | rfl | rfl | rfl | rfl | rfl | rfl | rfl | rfl | rfl | rfl | rfl | rfl | rfl | rfl | rfl | rfl | rfl | rfl | rfl | rfl | rfl | rfl | rfl | rfl
  all_goals rfl
theorem byte_at (s : ByteArray) (p : Nat) (h : p < s.size) : s.data.toList.getD p 0 = s[p] := by
  rw [List.getD_eq_getElem?_getD, List.getElem?_eq_getElem (by simpa using h)]; rfl
theorem fit_yes (f c : UInt8) : fitB f c = true ↔ (f.toNat = 48 ∧ 48 ≤ c.toNat ∧ c.toNat ≤ 57) ∨ (f.toNat ≠ 48 ∧ c.toNat = f.toNat) := by
  unfold fitB
  have e : f = 48 ↔ f.toNat = 48 := ⟨fun h => by rw [h]; rfl, fun h => UInt8.toNat_inj.1 (by rw [h]; rfl)⟩
  have e2 : c = f ↔ c.toNat = f.toNat := ⟨fun h => by rw [h], fun h => UInt8.toNat_inj.1 h⟩
  by_cases h : f = 48
  · rw [if_pos h]; simp only [decide_eq_true_eq]; rw [e] at h; omega
  · rw [if_neg h]; simp only [decide_eq_true_eq]; rw [e2]; rw [e] at h; omega
def formedB (l : List UInt8) : Bool := decide (l.length = 29) && (List.range 29).all fun i => fitB (formL.getD i 0) (l.getD i 0)
theorem formedB_iff {l : List UInt8} : formedB l = true ↔ formedP l := by
  unfold formedB formedP
  rw [Bool.and_eq_true, decide_eq_true_eq, List.all_eq_true]
  simp only [List.mem_range]
theorem formedB_true {l : List UInt8} (h : formedP l) : formedB l = true := formedB_iff.2 h
theorem formedB_false {l : List UInt8} (h : ¬ formedP l) : formedB l = false := by
  cases e : formedB l
  · rfl
  · exact absurd (formedB_iff.1 e) h
theorem fit_step {l : List UInt8} {p : Nat} (h : ∀ j, j < p → fitB (formL.getD j 0) (l.getD j 0) = true) (h' : fitB (formL.getD p 0) (l.getD p 0) = true) : ∀ j, j < p + 1 → fitB (formL.getD j 0) (l.getD j 0) = true := by
  intro j hj
  by_cases e : j = p
  · rw [e]; exact h'
  · exact h j (by omega)
set_option maxRecDepth 100000 in
set_option maxHeartbeats 4000000 in
theorem formed_any (s : ByteArray) (w : World) :
    Calls Tryd.prog 36 #[.string s] w fun e w' => e = .returned (.bool (formedB s.data.toList)) ∧ Below w.heap.size w w' := by
  by_cases h : s.size = 29
  · have hl : s.data.toList.length = 29 := by rw [Array.length_toList]; exact h
    have HL := hide hl
    clear hl
    go_enter Tryd.func36, Tryd.ntmps36
    go_wp2_with fail
    go_loopw [7] (fun i w' => ∃ pos : Nat, i = .int .i64 (pos : Int) ∧ pos ≤ 29 ∧ Hid (∀ j, j < pos → fitB (formL.getD j 0) (s.data.toList.getD j 0) = true) ∧ Below w.heap.size w w') (fun i _ => 29 - (intOf i).toNat)
    case atStart => exact ⟨0, rfl, by omega, hide (fun j hj => by omega), Below.refl _ _⟩
    case round =>
      obtain ⟨pos, rfl, hp, HI, hb⟩ := hrel
      by_cases hlt : pos < 29
      · have hsz : pos < s.size := by omega
        have hfz : pos < (⟨#[48, 48, 48, 48, 45, 48, 48, 45, 48, 48, 84, 48, 48, 58, 48, 48, 58, 48, 48, 46, 48, 48, 48, 48, 48, 48, 48, 48, 48]⟩ : ByteArray).size := hlt
        have hfit := fit_yes (formL.getD pos 0) (s.data.toList.getD pos 0)
        have hstep := hide (fun h => fit_step (l := s.data.toList) (p := pos) (unhide HI) h)
        have hfail := hide (fun (h : ¬ fitB (formL.getD pos 0) (s.data.toList.getD pos 0) = true) => formedB_false (l := s.data.toList) (fun h' => h (h'.2 pos hlt)))
        rw [← form_at pos hfz, byte_at s pos hsz] at hfit hstep hfail
        obtain ⟨f, hf⟩ : ∃ f, ((⟨#[48, 48, 48, 48, 45, 48, 48, 45, 48, 48, 84, 48, 48, 58, 48, 48, 58, 48, 48, 46, 48, 48, 48, 48, 48, 48, 48, 48, 48]⟩ : ByteArray)[pos]'hfz).toNat = f := ⟨_, rfl⟩
        obtain ⟨c, hc⟩ : ∃ c, (s[pos]'hsz).toNat = c := ⟨_, rfl⟩
        rw [hf, hc] at hfit
        have HF := hide hfit
        clear hfit
        by_cases f48 : f = 48
        · subst f48
          by_cases c1 : c < 48
          · have k1 : decide ((c : Int) < 48) = true := decide_eq_true (by omega)
            have HB := hide ((unhide hfail) (fun h => by have := (unhide HF).1 h; omega))
            clear hstep hfail HF
            go_wp2_with fail
            go_quiet (fail)
            go_wp2_with fail
            go_ret
            exact ⟨ret_bool (unhide HB).symm, hb.trans ((below_drewN _ _).mono hb.size)⟩
          · have k1 : decide ((c : Int) < 48) = false := decide_eq_false (by omega)
            by_cases c2 : 57 < c
            · have k2 : decide (57 < (c : Int)) = true := decide_eq_true (by omega)
              have HB := hide ((unhide hfail) (fun h => by have := (unhide HF).1 h; omega))
              clear hstep hfail HF
              go_wp2_with fail
              go_quiet (fail)
              go_wp2_with fail
              go_ret
              exact ⟨ret_bool (unhide HB).symm, hb.trans ((below_drewN _ _).mono hb.size)⟩
            · have k2 : decide (57 < (c : Int)) = false := decide_eq_false (by omega)
              have HB := hide ((unhide hstep) ((unhide HF).2 (by omega)))
              clear hstep hfail HF
              go_wp2_with fail
              go_quiet (fail)
              go_wp2_with fail
              go_round
              case rel => exact ⟨pos + 1, by go_num, by omega, HB, hb.trans ((below_drewN _ _).mono hb.size)⟩
              case measure => simp [intOf]; omega
        · have g48 : ((f : Int) == 48) = false := by rw [beq_eq_false_iff_ne]; omega
          have g49 : ((f : Int) != 48) = true := by rw [bne_iff_ne]; omega
          by_cases c1 : c = f
          · have HB := hide ((unhide hstep) ((unhide HF).2 (by omega)))
            subst c1
            clear hstep hfail HF
            go_wp2_with fail
            go_quiet (fail)
            go_wp2_with fail
            go_round
            case rel => exact ⟨pos + 1, by go_num, by omega, HB, hb.trans ((below_drewN _ _).mono hb.size)⟩
            case measure => simp [intOf]; omega
          · have HB := hide ((unhide hfail) (fun h => by have := (unhide HF).1 h; omega))
            have gc : ((c : Int) != (f : Int)) = true := by rw [bne_iff_ne]; omega
            clear hstep hfail HF
            go_wp2_with fail
            go_quiet (fail)
            go_wp2_with fail
            go_ret
            exact ⟨ret_bool (unhide HB).symm, hb.trans ((below_drewN _ _).mono hb.size)⟩
      · obtain rfl : pos = 29 := by omega
        have HB := hide (formedB_true (l := s.data.toList) ⟨unhide HL, unhide HI⟩)
        go_wp2_with fail
        go_ret
        exact ⟨ret_bool (unhide HB).symm, hb⟩
  · have HB := hide (formedB_false (l := s.data.toList) (fun h' => h (by rw [← h'.1, Array.length_toList]; rfl)))
    have hne : ((s.size : Int) != 29) = true := by rw [bne_iff_ne]; omega
    go_enter Tryd.func36, Tryd.ntmps36
    go_wp2_with fail
    go_ret
    exact ⟨ret_bool (unhide HB).symm, Below.refl _ _⟩
end Go.Proofs.YtjngnmpjkiafpaaDoor
