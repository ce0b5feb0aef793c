import Derived.Test.YtcbdbkdnindaoaaDoorL9Fixed
import Derived.Test.YtcbdbkdnindaoaaDoorMkTab
namespace Go.Proofs.YtcbdbkdnindaoaaDoor
open Go.RowKit Mk

set_option maxRecDepth 100000 in
set_option maxHeartbeats 4000000 in
theorem lparses_list (l : List UInt8) (w : World) (ht : MTab w) :
    Calls Tryd.prog 5 #[.string (bs l)] w fun e w' => e = .returned (.bool true) ∧ Below w.heap.size w w' := by
  have CF := hide (fixed9 w ht)
  have zl := bs_size l
  have S : Below w.heap.size w w := Below.refl _ _
  by_cases hl : l.length ≤ 60
  · have CP := fun w' h => hide (parse_any l (by omega) w' h)
    have CR := fun w' => hide (rparse_any l (by omega) w')
    generalize parseN l = Z at *
    obtain ⟨z, o⟩ := Z
    simp only at CP CR
    cases o
    · go_enter Tryd.func5, Tryd.ntmps5
      go_wp2_with (first
        | (go_at_call 6; refine (unhide CF).mono ?_; rintro e w1 ⟨rfl, hb⟩; have S := Below.trans S (hb.mono S.size); clear hb)
        | (go_at_call 16; refine (unhide (CP _ (ht.below S))).mono ?_; rintro e w1 ⟨rfl, hb⟩; have S := Below.trans S (hb.mono S.size); clear hb)
        | (go_at_call 19; refine (unhide (CR _)).mono ?_; rintro e w1 ⟨rfl, hb⟩; have S := Below.trans S (hb.mono S.size); clear hb))
      go_ret
      exact ⟨rfl, S⟩
    · go_enter Tryd.func5, Tryd.ntmps5
      go_wp2_with (first
        | (go_at_call 6; refine (unhide CF).mono ?_; rintro e w1 ⟨rfl, hb⟩; have S := Below.trans S (hb.mono S.size); clear hb)
        | (go_at_call 16; refine (unhide (CP _ (ht.below S))).mono ?_; rintro e w1 ⟨rfl, hb⟩; have S := Below.trans S (hb.mono S.size); clear hb)
        | (go_at_call 19; refine (unhide (CR _)).mono ?_; rintro e w1 ⟨rfl, hb⟩; have S := Below.trans S (hb.mono S.size); clear hb))
      go_ret
      exact ⟨rfl, S⟩
  · have hl2 : (60 : Int) < (l.length : Int) := by omega
    go_enter Tryd.func5, Tryd.ntmps5
    go_wp2_with (first | (go_at_call 6; refine (unhide CF).mono ?_; rintro e w1 ⟨rfl, hb⟩; have S := Below.trans S (hb.mono S.size); clear hb))
    go_ret
    exact ⟨rfl, S⟩
theorem lparses_walk (s : ByteArray) (w : World) (hw : MTab w) :
    Calls Tryd.prog 5 #[.string s] w fun e w' => e = .returned (.bool true) ∧ Below w.heap.size w w' := by
  have := lparses_list s.data.toList w hw
  rwa [bs_of] at this
end Go.Proofs.YtcbdbkdnindaoaaDoor
