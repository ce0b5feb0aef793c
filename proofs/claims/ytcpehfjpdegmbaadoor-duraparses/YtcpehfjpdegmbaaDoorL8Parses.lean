import Derived.Test.YtcpehfjpdegmbaaDoorDuTab
import Derived.Test.YtcpehfjpdegmbaaDoorDu12
namespace Go.Proofs.YtcpehfjpdegmbaaDoor
open Go.RowKit Kt Dg Du

set_option maxHeartbeats 1000000 in
theorem rparse_any (l : List UInt8) (w : World) (hl : l.length ≤ 1000000) :
    Calls Tryd.prog 11 #[.string (bs l)] w fun e w' => e = .returned (.tuple #[.int .i64 (parseZ l).1, .bool (parseZ l).2]) ∧ Below w.heap.size w w' := by
  by_cases hn : l = neverL
  · have he : ((bs l).toList == [110, 101, 118, 101, 114]) = true := by rw [toL_eq, hn]; rfl
    have HZ := hide (show parseZ l = (4611686018427387903, true) by unfold parseZ; rw [if_pos hn])
    clear hn
    generalize parseZ l = Z at *
    go_enter Tryd.func11, Tryd.ntmps11
    go_wp2_with fail
    go_ret2
    exact ⟨by rw [unhide HZ]; rfl, Below.refl _ _⟩
  · have hp : ([45] : List UInt8).isPrefixOf l = decide (l.head? = some 45) := has_minus l
    by_cases hm : l.head? = some 45
    · have hz : parseZ l = (-(sumZ l.tail).1, (sumZ l.tail).2) := by unfold parseZ; rw [if_neg hn, if_pos hm]
      have h1 : 1 ≤ l.length := by
        cases l with
        | nil => simp at hm
        | cons c r => simp
      have h := rparse_not l l.tail true w hl hn (by rw [hp]; exact decide_eq_true hm) (.inl ⟨rfl, h1, cut_one l⟩) (by rw [List.length_tail]; omega)
      rw [hz]
      generalize sumZ l.tail = Y at h ⊢
      obtain ⟨a, o⟩ := Y
      simp only [if_true] at h ⊢
      exact h
    · have hz : parseZ l = sumZ l := by unfold parseZ; rw [if_neg hn, if_neg hm]
      have h := rparse_not l l false w hl hn (by rw [hp]; exact decide_eq_false hm) (.inr ⟨rfl, rfl⟩) hl
      rw [hz]
      generalize sumZ l = Y at h ⊢
      obtain ⟨a, o⟩ := Y
      simp only [Bool.false_eq_true, if_false] at h ⊢
      exact h
theorem parse_zero (l : List UInt8) (h : (parseZ l).2 = false) : (parseZ l).1 = 0 := by
  unfold parseZ at *
  by_cases hn : l = neverL
  · rw [if_pos hn] at h; exact Bool.noConfusion h
  · rw [if_neg hn] at h ⊢
    by_cases hm : l.head? = some 45
    · rw [if_pos hm] at h ⊢
      have h2 := sum_false l.tail
      generalize sumZ l.tail = Y at h h2 ⊢
      obtain ⟨a, o⟩ := Y
      simp only at h h2 ⊢
      rw [h2 h]; rfl
    · rw [if_neg hm] at h ⊢
      exact sum_false l h
set_option maxRecDepth 100000 in
set_option maxHeartbeats 4000000 in
theorem lparses_list (l : List UInt8) (w : World) (hw : DTab w) :
    Calls Tryd.prog 4 #[.string (bs l)] w fun e w' => e = .returned (.bool true) ∧ Below w.heap.size w w' := by
  have CF := hide (fixed8 w hw)
  have zl := bs_size l
  have HT : ∀ w', Below w.heap.size w w' → DTab w' := fun w' h => hw.on h
  have S0 := Below.refl w.heap.size w
  by_cases hl : l.length ≤ 100
  · have CP := fun w' h => hide (parse_any l w' h (by omega))
    have CR := fun w' => hide (rparse_any l w' (by omega))
    have HZ := hide (parse_zero l)
    generalize parseZ l = Z at *
    obtain ⟨z, o⟩ := Z
    simp only at CP CR HZ
    cases o
    · obtain rfl : z = 0 := (unhide HZ) rfl
      clear HZ
      go_enter Tryd.func4, Tryd.ntmps4
      go_wp2_with (first
        | (go_at_call 7; refine (unhide CF).mono ?_; rintro e w4 ⟨rfl, hb4⟩; have hk4 := Below.trans (by assumption) (hb4.mono (Below.size (by assumption))))
        | (go_at_call 10; refine (unhide (CP _ (HT _ (by assumption)))).mono ?_; rintro e w4 ⟨rfl, hb4⟩; have hk4 := Below.trans (by assumption) (hb4.mono (Below.size (by assumption))))
        | (go_at_call 11; refine (unhide (CR _)).mono ?_; rintro e w4 ⟨rfl, hb4⟩; have hk4 := Below.trans (by assumption) (hb4.mono (Below.size (by assumption)))))
      go_ret
      exact ⟨rfl, by assumption⟩
    · clear HZ
      go_enter Tryd.func4, Tryd.ntmps4
      go_wp2_with (first
        | (go_at_call 7; refine (unhide CF).mono ?_; rintro e w4 ⟨rfl, hb4⟩; have hk4 := Below.trans (by assumption) (hb4.mono (Below.size (by assumption))))
        | (go_at_call 10; refine (unhide (CP _ (HT _ (by assumption)))).mono ?_; rintro e w4 ⟨rfl, hb4⟩; have hk4 := Below.trans (by assumption) (hb4.mono (Below.size (by assumption))))
        | (go_at_call 11; refine (unhide (CR _)).mono ?_; rintro e w4 ⟨rfl, hb4⟩; have hk4 := Below.trans (by assumption) (hb4.mono (Below.size (by assumption)))))
      go_ret
      exact ⟨rfl, by assumption⟩
  · have hl2 : (100 : Int) < (l.length : Int) := by omega
    go_enter Tryd.func4, Tryd.ntmps4
    go_wp2_with (first | (go_at_call 7; refine (unhide CF).mono ?_; rintro e w4 ⟨rfl, hb4⟩; have hk4 := Below.trans (by assumption) (hb4.mono (Below.size (by assumption)))))
    go_ret
    exact ⟨rfl, by assumption⟩
theorem lparses_walk (s : ByteArray) (w : World) (hw : DTab w) :
    Calls Tryd.prog 4 #[.string s] w fun e w' => e = .returned (.bool true) ∧ Below w.heap.size w w' := by
  have := lparses_list s.data.toList w hw
  rwa [bs_of] at this
end Go.Proofs.YtcpehfjpdegmbaaDoor
