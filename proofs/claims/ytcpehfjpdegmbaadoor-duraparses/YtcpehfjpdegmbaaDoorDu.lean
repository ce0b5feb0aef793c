import Derived.Test.YtcpehfjpdegmbaaDoorDuMath
import Derived.Test.YtcpehfjpdegmbaaDoorBs
namespace Go.Proofs.YtcpehfjpdegmbaaDoor
open Go.RowKit Kt Dg Du

/-- The run of digits, or of others, at a text's beginning. -/
def tw (b : Bool) (l : List UInt8) : List UInt8 := l.takeWhile (fun c => isD c == b)
theorem tw_dg (l : List UInt8) : tw true l = dg l := by
  unfold tw dg
  congr 1; funext c; cases isD c <;> rfl
theorem tw_not (l : List UInt8) : tw false l = l.takeWhile notD := by
  unfold tw
  congr 1; funext c; unfold notD; cases isD c <;> rfl
theorem tw_stop (b : Bool) (l : List UInt8) (p : Nat) (h : p < l.length) (hd : isD l[p] ≠ b) : (tw b (l.drop p)).length = 0 := by
  unfold tw
  rw [List.drop_eq_getElem_cons h, List.takeWhile_cons, if_neg (by simpa using hd)]; rfl
theorem tw_go (b : Bool) (l : List UInt8) (p : Nat) (h : p < l.length) (hd : isD l[p] = b) : (tw b (l.drop p)).length = 1 + (tw b (l.drop (p + 1))).length := by
  unfold tw
  rw [List.drop_eq_getElem_cons h, List.takeWhile_cons, if_pos (by simpa using hd), List.length_cons]; omega
theorem isD_val (c : UInt8) : isD c = (decide (48 ≤ (c.toNat : Int)) && decide ((c.toNat : Int) ≤ 57)) := by
  unfold isD
  congr 1 <;> (rw [decide_eq_decide]; omega)
set_option maxHeartbeats 1000000 in
theorem run_any (l : List UInt8) (b : Bool) (w : World) (hs : l.length ≤ 1000000000) :
    Calls Tryd.prog 37 #[.string (bs l), .bool b] w fun e w' => e = .returned (.int .i64 ((tw b l).length : Int)) ∧ w' = w := by
  have hz := bs_size l
  go_enter Tryd.func37, Tryd.ntmps37
  go_wp2_with fail
  go_loop [8] (fun i => ∃ pos : Nat, i = .int .i64 (pos : Int) ∧ pos ≤ l.length ∧ Hid ((tw b l).length = pos + (tw b (l.drop pos)).length)) (fun i => l.length - (intOf i).toNat)
  case atStart => exact ⟨0, rfl, by omega, hide (by simp)⟩
  case round =>
    obtain ⟨pos, rfl, hp, HI⟩ := hrel
    by_cases hlt : pos < l.length
    · have hlt2 : pos < (bs l).size := by omega
      have hv := isD_val ((bs l)[pos]'hlt2)
      have hgo := hide (fun h : isD ((bs l)[pos]'hlt2) = b => tw_go b l pos hlt h)
      have hst := hide (fun h : isD ((bs l)[pos]'hlt2) ≠ b => tw_stop b l pos hlt h)
      obtain ⟨c, hc⟩ : ∃ c, ((bs l)[pos]'hlt2).toNat = c := ⟨_, rfl⟩
      rw [hc] at hv
      by_cases hd : isD ((bs l)[pos]'hlt2) = b
      · have HG := hide ((unhide hgo) hd)
        rw [hd] at hv
        clear hgo hst hd
        by_cases c1 : (48 : Int) ≤ (c : Int) <;> by_cases c2 : (c : Int) ≤ 57
        all_goals
          simp only [c1, c2, decide_true, decide_false, Bool.and_true, Bool.and_false] at hv
          subst hv
          go_wp2_with fail
          go_round
          case rel => exact ⟨pos + 1, by go_num, by omega, hide (by rw [unhide HI, unhide HG]; omega)⟩
          case measure => simp [intOf]; omega
      · have HG := hide ((unhide hst) hd)
        have hb : b = !(isD ((bs l)[pos]'hlt2)) := by cases b <;> cases h : isD ((bs l)[pos]'hlt2) <;> simp_all
        rw [hv] at hb
        clear hgo hst hd hv
        by_cases c1 : (48 : Int) ≤ (c : Int) <;> by_cases c2 : (c : Int) ≤ 57
        all_goals
          simp only [c1, c2, decide_true, decide_false, Bool.and_true, Bool.and_false, Bool.not_true, Bool.not_false] at hb
          subst hb
          go_wp2_with fail
          go_ret
          exact ⟨ret_int (by rw [unhide HI, unhide HG]; omega), rfl⟩
    · have HE := hide (show (tw b l).length = l.length by rw [unhide HI, show pos = l.length by omega, List.drop_eq_nil_of_le (Nat.le_refl _)]; rfl)
      go_wp2_with fail
      go_ret
      exact ⟨ret_int (by rw [unhide HE]), rfl⟩
end Go.Proofs.YtcpehfjpdegmbaaDoor
