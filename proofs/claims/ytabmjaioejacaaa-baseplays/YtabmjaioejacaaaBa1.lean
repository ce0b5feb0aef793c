/- Going through all queues of a base: what each call of the closure keeps is kept. -/
import Derived.Test.YtabmjaioejacaaaTreeB
import Derived.Test.YtabmjaioejacaaaRows
import Derived.WalkKit
import Derived.WalkSpells
import Derived.WalkLawsBesides
import Derived.RegionTactic
import Derived.BigRegion
namespace Go.Proofs.Ytabmjaioejacaaa
open Go.RowKit
set_option linter.unusedVariables false

theorem idx_pair0 (c d : Value) (w : World) : (Instr.index 49 (.agg #[c, d]) (.int .i64 0)).run Try.prog w = .ok c w := by kernel_rfl
theorem idx_pair1 (c d : Value) (w : World) : (Instr.index 49 (.agg #[c, d]) (.int .i64 1)).run Try.prog w = .ok d w := by kernel_rfl
/-- A nil base: nothing is called. -/
theorem each_nil (f : Value) (w : World) : Calls Try.prog 21 #[.pointer none, f] w fun e w' => e = .returned (.tuple #[]) ∧ w' = w := by
  go_enter Try.func21, Try.ntmps21
  go_wp2
  refine bodyPost_ret (results_none rfl _ _ _) rfl ?_
  exact ⟨rfl, rfl⟩
set_option maxRecDepth 20000 in
set_option maxHeartbeats 1000000 in
theorem each_any (b : Nat) (c0 c1 c2 c3 c4 c5 : Value) (F : Nat) (caps : Array Value) (J : Nat → World → Prop) (w : World)
    (eg : ∀ (args : Array Value) (w : World), (callFunc F args).run Try.prog w = .ok (.enter F args) w)
    (hb : ∀ i w, J i w → Blk w b 52 #[c0, c1, c2, c3, c4, c5])
    (hs : ∀ i w k l c, i < 6 → J i w → k = ((i / 2 : Nat) : Int) → l = decide (i % 2 = 1) → #[c0, c1, c2, c3, c4, c5][i]? = some c → Calls Try.prog F (#[.int .i64 k, .bool l, c] ++ caps) w fun e w' => e = .returned (.tuple #[]) ∧ J (i + 1) w')
    (hJ : J 0 w) : Calls Try.prog 21 #[.pointer (some ⟨b, 0, none⟩), .func (.func F) #[] caps] w fun e w' => e = .returned (.tuple #[]) ∧ J 6 w' := by
  have HB := hide hb
  have HS := hide hs
  have H0 := hide hJ
  clear hb hs hJ
  go_enter Try.func21, Try.ntmps21
  go_wp2
  go_loopw [9] (fun d w' => ∃ k : Int, d = .int .i64 k ∧ (0 ≤ k ∧ k ≤ 3) ∧ Hid (J (2 * k.toNat) w')) (fun d _ => 3 - (intOf d).toNat)
  case atStart => exact ⟨0, rfl, by omega, H0⟩
  case round =>
    obtain ⟨k, rfl, hk, HK⟩ := hrel
    by_cases hlt : k < 3
    · have hbk := (unhide HB) _ _ (unhide HK)
      have q0 := hbk.cell 0
      have q1 := hbk.cell 1
      have q2 := hbk.cell 2
      have q3 := hbk.cell 3
      have q4 := hbk.cell 4
      have q5 := hbk.cell 5
      simp only [List.getElem?_toArray, List.getElem?_cons_zero, List.getElem?_cons_succ] at q0 q1 q2 q3 q4 q5
      clear hbk
      rcases (show k = 0 ∨ k = 1 ∨ k = 2 by omega) with rfl | rfl | rfl
      · go_wp2
        go_loopw [18] (fun d w' => ∃ j : Int, d = .int .i64 j ∧ (0 ≤ j ∧ j ≤ 2) ∧ Hid (J (0 + j.toNat) w')) (fun d _ => 2 - (intOf d).toNat)
        case atStart => exact ⟨0, rfl, by omega, HK⟩
        case round =>
          obtain ⟨j, rfl, hj, HJ⟩ := hrel
          by_cases hjt : j < 2
          · rcases (show j = 0 ∨ j = 1 by omega) with rfl | rfl
            · have ix := idx_pair0 c0 c1
              have CS := hide ((unhide HS) 0 _ _ _ _ (by omega) (unhide HJ) rfl rfl rfl)
              go_wp2_with (show Calls Try.prog F _ _ _; refine (unhide CS).mono ?_; rintro e w1 ⟨rfl, j1⟩)
              go_roundw
              case rel => exact ⟨1, by first | rfl | go_num, by omega, hide j1⟩
              case measure => simp [intOf]
            · have ix := idx_pair1 c0 c1
              have CS := hide ((unhide HS) (0 + 1) _ _ _ _ (by omega) (unhide HJ) rfl rfl rfl)
              go_wp2_with (show Calls Try.prog F _ _ _; refine (unhide CS).mono ?_; rintro e w1 ⟨rfl, j1⟩)
              go_roundw
              case rel => exact ⟨2, by first | rfl | go_num, by omega, hide j1⟩
              case measure => simp [intOf]
          · obtain rfl : j = 2 := by omega
            go_wp2
            go_roundw
            case rel => exact ⟨1, by first | rfl | go_num, by omega, HJ⟩
            case measure => simp [intOf]
      · go_wp2
        go_loopw [18] (fun d w' => ∃ j : Int, d = .int .i64 j ∧ (0 ≤ j ∧ j ≤ 2) ∧ Hid (J (2 + j.toNat) w')) (fun d _ => 2 - (intOf d).toNat)
        case atStart => exact ⟨0, rfl, by omega, HK⟩
        case round =>
          obtain ⟨j, rfl, hj, HJ⟩ := hrel
          by_cases hjt : j < 2
          · rcases (show j = 0 ∨ j = 1 by omega) with rfl | rfl
            · have ix := idx_pair0 c2 c3
              have CS := hide ((unhide HS) 2 _ _ _ _ (by omega) (unhide HJ) rfl rfl rfl)
              go_wp2_with (show Calls Try.prog F _ _ _; refine (unhide CS).mono ?_; rintro e w1 ⟨rfl, j1⟩)
              go_roundw
              case rel => exact ⟨1, by first | rfl | go_num, by omega, hide j1⟩
              case measure => simp [intOf]
            · have ix := idx_pair1 c2 c3
              have CS := hide ((unhide HS) (2 + 1) _ _ _ _ (by omega) (unhide HJ) rfl rfl rfl)
              go_wp2_with (show Calls Try.prog F _ _ _; refine (unhide CS).mono ?_; rintro e w1 ⟨rfl, j1⟩)
              go_roundw
              case rel => exact ⟨2, by first | rfl | go_num, by omega, hide j1⟩
              case measure => simp [intOf]
          · obtain rfl : j = 2 := by omega
            go_wp2
            go_roundw
            case rel => exact ⟨2, by first | rfl | go_num, by omega, HJ⟩
            case measure => simp [intOf]
      · go_wp2
        go_loopw [18] (fun d w' => ∃ j : Int, d = .int .i64 j ∧ (0 ≤ j ∧ j ≤ 2) ∧ Hid (J (4 + j.toNat) w')) (fun d _ => 2 - (intOf d).toNat)
        case atStart => exact ⟨0, rfl, by omega, HK⟩
        case round =>
          obtain ⟨j, rfl, hj, HJ⟩ := hrel
          by_cases hjt : j < 2
          · rcases (show j = 0 ∨ j = 1 by omega) with rfl | rfl
            · have ix := idx_pair0 c4 c5
              have CS := hide ((unhide HS) 4 _ _ _ _ (by omega) (unhide HJ) rfl rfl rfl)
              go_wp2_with (show Calls Try.prog F _ _ _; refine (unhide CS).mono ?_; rintro e w1 ⟨rfl, j1⟩)
              go_roundw
              case rel => exact ⟨1, by first | rfl | go_num, by omega, hide j1⟩
              case measure => simp [intOf]
            · have ix := idx_pair1 c4 c5
              have CS := hide ((unhide HS) (4 + 1) _ _ _ _ (by omega) (unhide HJ) rfl rfl rfl)
              go_wp2_with (show Calls Try.prog F _ _ _; refine (unhide CS).mono ?_; rintro e w1 ⟨rfl, j1⟩)
              go_roundw
              case rel => exact ⟨2, by first | rfl | go_num, by omega, hide j1⟩
              case measure => simp [intOf]
          · obtain rfl : j = 2 := by omega
            go_wp2
            go_roundw
            case rel => exact ⟨3, by first | rfl | go_num, by omega, HJ⟩
            case measure => simp [intOf]
    · obtain rfl : k = 3 := by omega
      go_wp2
      go_end0
      exact ⟨rfl, unhide HK⟩
end Go.Proofs.Ytabmjaioejacaaa
