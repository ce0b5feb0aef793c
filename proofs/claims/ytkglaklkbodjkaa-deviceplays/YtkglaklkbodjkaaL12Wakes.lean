import Derived.Test.YtkglaklkbodjkaaDe3
namespace Go.Proofs.Ytkglaklkbodjkaa
open Go.RowKit Kt

/-- A device of one's own, behind all that was there. -/
structure DB (B : Nat) (w0 w : World) (g : Nat) (le gr : Int) (li ar : Bool) (t : Int) (la : Bool) : Prop where
  dev : Dev w g le gr li ar t la
  low : Below B w0 w
  ge : B ≤ g
  sz : B ≤ w.heap.size
theorem DB.step {B : Nat} {w0 w w' : World} {g : Nat} {le gr t t' : Int} {li ar la li' ar' la' : Bool} (h : DB B w0 w g le gr li ar t la) (d : Dev w' g le gr li' ar' t' la') (ht : Tch g w w') : DB B w0 w' g le gr li' ar' t' la' :=
  ⟨d, ht.low h.low h.ge h.sz, h.ge, Nat.le_trans h.sz ht.size⟩
theorem DB.below {B : Nat} {w0 w w' : World} {g : Nat} {le gr t : Int} {li ar la : Bool} (h : DB B w0 w g le gr li ar t la) (hb : Below w.heap.size w w') : DB B w0 w' g le gr li ar t la :=
  h.step (h.dev.below hb) (Tch.of_below hb)

set_option maxRecDepth 20000 in
set_option maxHeartbeats 2000000 in
theorem fixed12 (w : World) : Calls Try.prog 36 #[] w fun e w' => e = .returned (.bool true) ∧ Below w.heap.size w w' := by
  have e1 : aimZ 5 100 10 12 = 15 := by decide
  have e2 : neverB 12 = false := by decide
  have e3 : aimZ 5 100 10 11 = 15 := by decide
  have e4 : ¬ (15 : Int) ≤ clampZ 14 := by decide
  have e5 : (15 : Int) ≤ clampZ 15 := by decide
  have C1 := hide (dnew_any 5 100 w (by decide) (by decide) (by decide) (by decide))
  have C2 := fun w' g => hide (@program_on g 5 100 0 false false 10 12 w')
  rw [e1, e2] at C2
  have C3 := fun w' g h => hide (@sooner_no g 5 100 15 false 10 11 w' h (.inr (by rw [e3]; decide)))
  have C4 := fun w' g h => hide (@pass_late g 5 100 15 true false 14 w' h e4)
  have C5 := fun w' g h => hide (@pass_yes g 5 100 15 true false 15 w' h e5)
  have C8 := fun w' => hide (program_nil 1 2 w')
  have C9 := fun w' => hide (dnew_bad 5 4 w' (by decide))
  clear e1 e2 e3 e4 e5
  obtain ⟨B, hB⟩ : ∃ B, w.heap.size = B := ⟨_, rfl⟩
  rw [hB] at C1
  go_enter Try.func36, Try.ntmps36
  go_wp2_with (go_at_call 37; refine Hid.out ?_)
  refine hide ?_
  refine (unhide C1).mono ?_
  rintro e w1 ⟨rfl, h1, b1⟩
  have H1 : Hid (DB B w w1 B 5 100 true false 0 false) := hide ⟨h1, b1, Nat.le_refl _, by have := b1.size; omega⟩
  clear h1 b1 C1
  go_wp2_with (go_at_call 43; refine Hid.out ?_)
  refine hide ?_
  refine (unhide (C2 w1 B) (unhide H1).dev).mono ?_
  rintro e w2 ⟨rfl, h2, t2⟩
  have H2 := hide ((unhide H1).step h2 t2)
  clear h2 t2 H1 C2
  go_wp2_with (go_at_call 44; refine Hid.out ?_)
  refine hide ?_
  refine (unhide (C3 w2 B (unhide H2).dev)).mono ?_
  rintro e w3 ⟨rfl, h3, t3⟩
  have H3 := hide ((unhide H2).step h3 t3)
  clear h3 t3 H2 C3
  go_wp2_with (go_at_call 39; refine Hid.out ?_)
  refine hide ?_
  refine (unhide (C4 w3 B (unhide H3).dev)).mono ?_
  rintro e w4 ⟨rfl, h4, t4⟩
  have H4 := hide ((unhide H3).step h4 t4)
  clear h4 t4 H3 C4
  go_wp2_with (go_at_call 39; refine Hid.out ?_)
  refine hide ?_
  refine (unhide (C5 w4 B (unhide H4).dev)).mono ?_
  rintro e w5 ⟨rfl, h5, t5⟩
  have H5 := hide ((unhide H4).step h5 t5)
  clear h5 t5 H4 C5
  go_wp2_with (go_at_call 45; refine Hid.out ?_)
  refine hide ?_
  refine (take_any w5 (unhide H5).dev).mono ?_
  rintro e w6 ⟨rfl, h6, t6⟩
  have H6 := hide ((unhide H5).step h6 t6)
  clear h6 t6 H5
  go_wp2_with (go_at_call 45; refine Hid.out ?_)
  refine hide ?_
  refine (take_any w6 (unhide H6).dev).mono ?_
  rintro e w7 ⟨rfl, h7, t7⟩
  have H7 := hide ((unhide H6).step h7 t7)
  have CL := hide (live_any w7 h7)
  clear h7 t7 H6
  go_wp2_with (first
    | (go_at_call 43; refine (unhide (C8 _)).mono ?_; rintro e w8 ⟨rfl, rfl⟩)
    | (go_at_call 37; refine (unhide (C9 _)).mono ?_; rintro e w8 ⟨rfl, rfl⟩)
    | (go_at_call 45; refine (take_nil _).mono ?_; rintro e w8 ⟨rfl, rfl⟩)
    | (go_at_call 49; with_reducible refine (live_nil _).mono ?_; rintro e w8 ⟨rfl, rfl⟩)
    | (go_at_call 49; with_reducible refine (unhide CL).mono ?_; rintro e w8 ⟨rfl, rfl⟩))
  go_ret
  exact ⟨rfl, by rw [hB]; exact (unhide H7).low⟩

theorem wakes_at {le mo n s : Nat} (h0 : le ≤ 255) (h1 : mo ≤ 255) (h2 : n ≤ 255) (h3 : s ≤ 255) :
    ∃ a : Nat, aimZ (le : Int) ((le : Int) + 1 + mo) n s = (a : Int) ∧ n + le ≤ a ∧ a ≤ n + le + 1 + mo ∧ neverB (s : Int) = false ∧ ∀ i : Nat, i ≤ 2000 → clampZ (i : Int) = i := by
  have hn : neverB (s : Int) = false := by unfold neverB; simp; omega
  have hz : aimZ (le : Int) ((le : Int) + 1 + mo) n s = betweenZ (addZ n le) s (addZ n ((le : Int) + 1 + mo)) := if_neg (by rw [hn]; decide)
  refine ⟨min (max s (n + le)) (n + (le + 1 + mo)), ?_, by omega, by omega, hn, fun i hi => clampZ_id (by omega) (by omega)⟩
  rw [hz]
  have a1 : addZ (n : Int) (le : Int) = (n : Int) + le := by
    unfold addZ; rw [if_neg (by omega), clampZ_id (t := (n : Int)) (by omega) (by omega), clampZ_id (t := (le : Int)) (by omega) (by omega), clampZ_id (by omega) (by omega)]
  have a2 : addZ (n : Int) ((le : Int) + 1 + mo) = (n : Int) + ((le : Int) + 1 + mo) := by
    unfold addZ; rw [if_neg (by omega), clampZ_id (t := (n : Int)) (by omega) (by omega), clampZ_id (t := (le : Int) + 1 + mo) (by omega) (by omega), clampZ_id (by omega) (by omega)]
  rw [a1, a2]
  unfold betweenZ
  rw [clampZ_id (t := (s : Int)) (by omega) (by omega), clampZ_id (t := (n : Int) + le) (by omega) (by omega), clampZ_id (by omega) (by omega)]
  omega

set_option maxRecDepth 20000 in
set_option maxHeartbeats 2000000 in
theorem lwakes_walk (le mo n s : Nat) (w : World) (h0 : le ≤ 255) (h1 : mo ≤ 255) (h2 : n ≤ 255) (h3 : s ≤ 255) :
    Calls Try.prog 9 #[.int .u8 (le : Int), .int .u8 (mo : Int), .int .u8 (n : Int), .int .u8 (s : Int)] w fun e w' => e = .returned (.bool true) ∧ Below w.heap.size w w' := by
  obtain ⟨B, hB⟩ : ∃ B, w.heap.size = B := ⟨_, rfl⟩
  obtain ⟨a, ha, l1, l2, hnv, hcl⟩ := wakes_at h0 h1 h2 h3
  have CF := hide (fixed12 w)
  rw [hB] at CF
  have C1 := fun w' => hide (dnew_any (le : Int) ((le : Int) + 1 + mo) w' (by omega) (by omega) (by omega) (by omega))
  have C2 := fun w' g => hide (@program_on g (le : Int) ((le : Int) + 1 + mo) 0 false false (n : Int) (s : Int) w')
  rw [ha, hnv] at C2
  have C4 := fun (i : Nat) w' g h => fun hi : ¬ (a : Int) ≤ clampZ (i : Int) => hide (@pass_late g (le : Int) ((le : Int) + 1 + mo) (a : Int) true false (i : Int) w' h hi)
  have HC := hide hcl
  clear ha hnv hcl
  have q0 : (le : Int) ≤ 255 := by omega
  have q1 : (mo : Int) ≤ 255 := by omega
  have q2 : (n : Int) ≤ 255 := by omega
  have q3 : (s : Int) ≤ 255 := by omega
  have q4 : (n : Int) + le ≤ a := by omega
  have q5 : (a : Int) ≤ (n : Int) + le + 1 + mo := by omega
  go_enter Try.func9, Try.ntmps9
  go_wp2_with (go_at_call 36; refine Hid.out ?_)
  refine hide ?_
  refine (unhide CF).mono ?_
  rintro e w1 ⟨rfl, b1⟩
  have HB1 := hide b1
  clear b1 CF
  go_wp2_with (go_at_call 37; refine Hid.out ?_)
  refine hide ?_
  refine (unhide (C1 _)).mono ?_
  rintro e w2 ⟨rfl, d2, b2⟩
  obtain ⟨g, hg⟩ : ∃ g, w1.heap.size = g := ⟨_, rfl⟩
  rw [hg] at d2 b2 ⊢
  have H2 : Hid (DB B w w2 g le ((le : Int) + 1 + mo) true false 0 false) := hide ⟨d2, (unhide HB1).trans (b2.mono (by have := (unhide HB1).size; omega)), by have := (unhide HB1).size; omega, by have := (unhide HB1).size; have := b2.size; omega⟩
  clear d2 b2 C1 HB1
  go_wp2_with (go_at_call 43; refine Hid.out ?_)
  refine hide ?_
  refine (unhide (C2 w2 g) (unhide H2).dev).mono ?_
  rintro e w3 ⟨rfl, d3, t3⟩
  have H3 := hide ((unhide H2).step d3 t3)
  clear d3 t3 C2 H2
  go_wp2_with fail
  go_loopw [12] (fun d w' => ∃ i : Nat, d = .int .i64 (i : Int) ∧ i ≤ a ∧ Hid (DB B w w' g le ((le : Int) + 1 + mo) true true a false)) (fun d _ => a - (intOf d).toNat)
  case atStart => exact ⟨n, rfl, by omega, H3⟩
  case round =>
    obtain ⟨i, rfl, hi, HI⟩ := hrel
    by_cases hlt : i < a
    · go_wp2_with (go_at_call 39; refine Hid.out ?_)
      refine hide ?_
      refine (unhide (C4 i wr g (unhide HI).dev (by rw [unhide HC i (by omega)]; omega))).mono ?_
      rintro e w5 ⟨rfl, d5, t5⟩
      have H5 := hide ((unhide HI).step d5 t5)
      have CL := hide (latched_any w5 d5)
      clear d5 t5 HI H3
      go_wp2_with (go_at_call 40; refine (unhide CL).mono ?_; rintro e w6 ⟨rfl, rfl⟩)
      go_roundw
      case rel => exact ⟨i + 1, by go_num, by omega, H5⟩
      case measure => simp [intOf]; omega
    · obtain rfl : i = a := by omega
      go_wp2_with (go_at_call 39; refine Hid.out ?_)
      refine hide ?_
      refine (pass_yes (i : Int) wr (unhide HI).dev (by rw [unhide HC i (by omega)]; omega)).mono ?_
      rintro e w5 ⟨rfl, d5, t5⟩
      have H5 := hide ((unhide HI).step d5 t5)
      clear d5 t5 HI H3
      go_wp2_with (go_at_call 39; refine Hid.out ?_)
      refine hide ?_
      refine (pass_off ((i : Int) + 1) w5 (unhide H5).dev).mono ?_
      rintro e w6 ⟨rfl, d6, t6⟩
      have H6 := hide ((unhide H5).step d6 t6)
      clear d6 t6 H5
      go_wp2_with (go_at_call 45; refine Hid.out ?_)
      refine hide ?_
      refine (take_any w6 (unhide H6).dev).mono ?_
      rintro e w7 ⟨rfl, d7, t7⟩
      have H7 := hide ((unhide H6).step d7 t7)
      have CL := hide (latched_any w7 d7)
      clear d7 t7 H6
      go_wp2_with (go_at_call 40; refine (unhide CL).mono ?_; rintro e w8 ⟨rfl, rfl⟩)
      go_ret
      exact ⟨rfl, by rw [hB]; exact (unhide H7).low⟩
theorem lwakes_int (a b c d : Int) (w : World) (h0 : Lit.wf (.int .u8 a) = true) (h1 : Lit.wf (.int .u8 b) = true) (h2 : Lit.wf (.int .u8 c) = true) (h3 : Lit.wf (.int .u8 d) = true) :
    Calls Try.prog 9 #[.int .u8 a, .int .u8 b, .int .u8 c, .int .u8 d] w fun e w' => e = .returned (.bool true) ∧ Below w.heap.size w w' := by
  simp [Lit.wf, IntKind.min, IntKind.max, IntKind.signed, IntKind.bits] at h0 h1 h2 h3
  obtain ⟨x, rfl⟩ := Int.eq_ofNat_of_zero_le (show 0 ≤ a by omega)
  obtain ⟨y, rfl⟩ := Int.eq_ofNat_of_zero_le (show 0 ≤ b by omega)
  obtain ⟨z, rfl⟩ := Int.eq_ofNat_of_zero_le (show 0 ≤ c by omega)
  obtain ⟨u, rfl⟩ := Int.eq_ofNat_of_zero_le (show 0 ≤ d by omega)
  exact lwakes_walk x y z u w (by omega) (by omega) (by omega) (by omega)
end Go.Proofs.Ytkglaklkbodjkaa
