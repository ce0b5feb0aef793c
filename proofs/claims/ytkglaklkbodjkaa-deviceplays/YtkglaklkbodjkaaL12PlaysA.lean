import Derived.Test.YtkglaklkbodjkaaL12Wakes
import Derived.Test.YtkglaklkbodjkaaFlt
import Derived.Deep.DeepCutAuto
import Derived.Deep.CutBlock
namespace Go.Proofs.Ytkglaklkbodjkaa
open Go.RowKit Kt

/-- What an armed device is armed for; 0. -/
def armT (ar : Bool) (t : Int) : Int := if ar = true then t else 0
theorem addZ_clamp (a b : Int) : clampZ (addZ a b) = addZ a b := clampZ_id (addZ_bd a b).1 (addZ_bd a b).2
theorem aim_when {le gr n t : Int} (h : neverB t = false) : aimZ le gr n t = min (max (clampZ t) (addZ n le)) (addZ n gr) := by
  unfold aimZ
  rw [h, if_neg (by decide)]
  unfold betweenZ
  rw [addZ_clamp, addZ_clamp]
theorem aim_never {le gr n t : Int} (h : neverB t = true) : aimZ le gr n t = 0 := by
  unfold aimZ
  rw [h, if_pos rfl]
theorem never_dec (t : Int) : decide (4611686018427387903 ≤ t) = neverB t := by unfold neverB; rfl
set_option maxRecDepth 100000 in
set_option maxHeartbeats 1000000 in
theorem lplays12_long (le gr : Int) (p : Option Addr) (len cap : Nat) (w : World) (hlen : 100 < len) :
    Calls Try.prog 8 #[.int .i64 le, .int .i64 gr, .slice p len cap] w fun e w' => e = .returned (.bool true) ∧ Below w.heap.size w w' := by
  have CF := hide (fixed12 w)
  have hl2 : (100 : Int) < ((len : Nat) : Int) := by omega
  go_enter Try.func8, Try.ntmps8
  go_wp2_with (go_at_call 36; refine (unhide CF).mono ?_; rintro e w1 ⟨rfl, hb1⟩)
  go_ret
  exact ⟨rfl, hb1⟩
set_option maxRecDepth 100000 in
set_option maxHeartbeats 1000000 in
theorem lplays12_bad (le gr : Int) (p : Option Addr) (len cap : Nat) (w : World) (hlen : len ≤ 100) (h : ¬ (0 ≤ le ∧ le ≤ gr ∧ 1 ≤ gr ∧ gr ≤ 1099511627776)) :
    Calls Try.prog 8 #[.int .i64 le, .int .i64 gr, .slice p len cap] w fun e w' => e = .returned (.bool true) ∧ Below w.heap.size w w' := by
  have CF := hide (fixed12 w)
  have CN := fun w' => hide (dnew_bad le gr w' h)
  have hl2 : ((len : Nat) : Int) ≤ 100 := by omega
  have S : Below w.heap.size w w := Below.refl _ _
  have HB := hide h
  clear h
  by_cases h0 : le < 0
  · go_enter Try.func8, Try.ntmps8
    go_wp2_with (first
      | (go_at_call 36; refine (unhide CF).mono ?_; rintro e w1 ⟨rfl, hb1⟩)
      | (go_at_call 37; refine (unhide (CN _)).mono ?_; rintro e w2 ⟨rfl, rfl⟩)
      | (go_at_call 38; refine (armed_nil _).mono ?_; rintro e w3 ⟨rfl, rfl⟩)
      | (go_at_call 39; refine (pass_nil _ _).mono ?_; rintro e w4 ⟨rfl, hb4⟩)
      | (go_at_call 40; refine (latched_nil _).mono ?_; rintro e w5 ⟨rfl, rfl⟩))
    go_ret
    exact ⟨rfl, hb1.trans (hb4.mono hb1.size)⟩
  by_cases h1 : gr < le
  · go_enter Try.func8, Try.ntmps8
    go_wp2_with (first
      | (go_at_call 36; refine (unhide CF).mono ?_; rintro e w1 ⟨rfl, hb1⟩)
      | (go_at_call 37; refine (unhide (CN _)).mono ?_; rintro e w2 ⟨rfl, rfl⟩)
      | (go_at_call 38; refine (armed_nil _).mono ?_; rintro e w3 ⟨rfl, rfl⟩)
      | (go_at_call 39; refine (pass_nil _ _).mono ?_; rintro e w4 ⟨rfl, hb4⟩)
      | (go_at_call 40; refine (latched_nil _).mono ?_; rintro e w5 ⟨rfl, rfl⟩))
    go_ret
    exact ⟨rfl, hb1.trans (hb4.mono hb1.size)⟩
  by_cases h2 : gr < 1
  · go_enter Try.func8, Try.ntmps8
    go_wp2_with (first
      | (go_at_call 36; refine (unhide CF).mono ?_; rintro e w1 ⟨rfl, hb1⟩)
      | (go_at_call 37; refine (unhide (CN _)).mono ?_; rintro e w2 ⟨rfl, rfl⟩)
      | (go_at_call 38; refine (armed_nil _).mono ?_; rintro e w3 ⟨rfl, rfl⟩)
      | (go_at_call 39; refine (pass_nil _ _).mono ?_; rintro e w4 ⟨rfl, hb4⟩)
      | (go_at_call 40; refine (latched_nil _).mono ?_; rintro e w5 ⟨rfl, rfl⟩))
    go_ret
    exact ⟨rfl, hb1.trans (hb4.mono hb1.size)⟩
  have h3 : 1099511627776 < gr := by have := unhide HB; omega
  go_enter Try.func8, Try.ntmps8
  go_wp2_with (first
    | (go_at_call 36; refine (unhide CF).mono ?_; rintro e w1 ⟨rfl, hb1⟩)
    | (go_at_call 37; refine (unhide (CN _)).mono ?_; rintro e w2 ⟨rfl, rfl⟩)
    | (go_at_call 38; refine (armed_nil _).mono ?_; rintro e w3 ⟨rfl, rfl⟩)
    | (go_at_call 39; refine (pass_nil _ _).mono ?_; rintro e w4 ⟨rfl, hb4⟩)
    | (go_at_call 40; refine (latched_nil _).mono ?_; rintro e w5 ⟨rfl, rfl⟩))
  go_ret
  exact ⟨rfl, hb1.trans (hb4.mono hb1.size)⟩
end Go.Proofs.Ytkglaklkbodjkaa
