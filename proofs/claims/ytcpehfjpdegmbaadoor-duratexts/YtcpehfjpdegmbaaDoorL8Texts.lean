import Derived.Test.YtcpehfjpdegmbaaDoorDuTab
import Derived.Test.YtcpehfjpdegmbaaDoorDu10
namespace Go.Proofs.YtcpehfjpdegmbaaDoor
open Go.RowKit Kt Dg Du

theorem textZ_len (t : Int) : (textZ t).length ≤ 1000000000 := by
  have hb := size_bd t
  have hl := lenT_len (sizeZ t) hb.1 hb.2
  unfold textZ
  split
  · decide
  · split
    · rw [List.length_cons]; omega
    · omega
set_option maxRecDepth 100000 in
set_option maxHeartbeats 4000000 in
theorem ltexts_walk (t : Int) (w : World) (hw : DTab w) :
    Calls Tryd.prog 3 #[.int .i64 t] w fun e w' => e = .returned (.bool true) ∧ Below w.heap.size w w' := by
  have CF := hide (fixed8 w hw)
  have CT := fun w' h => hide (text_any t w' h)
  have CR := fun w' => hide (rtext_any t w')
  have CP := fun w' h => hide (parse_any (textZ t) w' h (textZ_len t))
  rw [parse_text] at CP
  simp only at CP
  have HT : ∀ w', Below w.heap.size w w' → DTab w' := fun w' h => hw.on h
  have S0 := Below.refl w.heap.size w
  generalize textZ t = T at *
  go_enter Tryd.func3, Tryd.ntmps3
  go_wp2_with (first
    | (go_at_call 7; refine (unhide CF).mono ?_; rintro e w4 ⟨rfl, hb4⟩; have hk4 := Below.trans (by assumption) (hb4.mono (Below.size (by assumption))))
    | (go_at_call 8; refine (unhide (CT _ (HT _ (by assumption)))).mono ?_; rintro e w4 ⟨rfl, hb4⟩; have hk4 := Below.trans (by assumption) (hb4.mono (Below.size (by assumption))))
    | (go_at_call 9; refine (unhide (CR _)).mono ?_; rintro e w4 ⟨rfl, hb4⟩; have hk4 := Below.trans (by assumption) (hb4.mono (Below.size (by assumption))))
    | (go_at_call 10; refine (unhide (CP _ (HT _ (by assumption)))).mono ?_; rintro e w4 ⟨rfl, hb4⟩; have hk4 := Below.trans (by assumption) (hb4.mono (Below.size (by assumption)))))
  go_ret
  exact ⟨rfl, by assumption⟩
end Go.Proofs.YtcpehfjpdegmbaaDoor
