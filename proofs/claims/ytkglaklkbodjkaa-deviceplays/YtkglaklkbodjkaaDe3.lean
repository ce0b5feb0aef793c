import Derived.Test.YtkglaklkbodjkaaDe2
namespace Go.Proofs.Ytkglaklkbodjkaa
open Go.RowKit Kt

section
variable {g : Nat} {le gr t : Int} {li ar la : Bool}
theorem program_nil (n s : Int) (w : World) : Calls Try.prog 43 #[.pointer none, .int .i64 n, .int .i64 s] w fun e w' => e = .returned (.tuple #[.int .i64 0, .bool false]) ∧ w' = w := by
  go_enter Try.func43, Try.ntmps43
  go_wp2_with (go_at_call 49; refine (live_nil _).mono ?_; rintro e w1 ⟨rfl, rfl⟩)
  go_ret2
  exact ⟨rfl, rfl⟩
theorem program_off (n s : Int) (w : World) (h : Dev w g le gr false ar t la) : Calls Try.prog 43 #[.pointer (some ⟨g, 0, none⟩), .int .i64 n, .int .i64 s] w fun e w' => e = .returned (.tuple #[.int .i64 0, .bool false]) ∧ w' = w := by
  have C := hide (live_any w h)
  clear h
  go_enter Try.func43, Try.ntmps43
  go_wp2_with (go_at_call 49; refine (unhide C).mono ?_; rintro e w1 ⟨rfl, rfl⟩)
  go_ret2
  exact ⟨rfl, rfl⟩
theorem program_on (n s : Int) (w : World) (h : Dev w g le gr true ar t la) : Calls Try.prog 43 #[.pointer (some ⟨g, 0, none⟩), .int .i64 n, .int .i64 s] w fun e w' => e = .returned (.tuple #[.int .i64 (aimZ le gr n s), .bool (!neverB s)]) ∧ Dev w' g le gr true (!neverB s) (aimZ le gr n s) la ∧ Tch g w w' := by
  have C := hide (live_any w h)
  have CA := hide (aim_any w h n s)
  have H := hide h
  clear h
  obtain ⟨z, hz⟩ : ∃ z, aimZ le gr n s = z := ⟨_, rfl⟩
  obtain ⟨b, hb⟩ : ∃ b, (!neverB s) = b := ⟨_, rfl⟩
  rw [hz, hb] at CA ⊢
  clear hz hb
  go_enter Try.func43, Try.ntmps43
  go_wp2_with (first | (go_at_call 49; refine (unhide C).mono ?_; rintro e w1 ⟨rfl, rfl⟩) | (go_at_call 61; refine Hid.out ?_))
  refine hide ?_
  refine (unhide CA).mono ?_
  rintro e w2 ⟨rfl, hb2⟩
  have h2 := (unhide H).below hb2
  have f := h2.fr
  have c3 := h2.c3
  have c4 := h2.c4
  have H2 := hide (And.intro h2 hb2)
  clear h2 hb2
  go_wp2_with fail
  have h3 := ((unhide H2).1.set4 z).set3 b
  have t3 := ((Tch.of_below (g := g) (unhide H2).2).set 4 (.int .i64 z)).set 3 (.bool b)
  obtain ⟨w3, hw3⟩ : ∃ w3, w3 = (w2.setCell ⟨g, 4, none⟩ (.int .i64 z)).setCell ⟨g, 3, none⟩ (.bool b) := ⟨_, rfl⟩
  rw [← hw3] at h3 t3 ⊢
  have c5 := h3.c3
  have c6 := h3.c4
  have H3 := hide (And.intro h3 t3)
  clear h3 t3 hw3 c3 c4 f
  go_quiet (fail)
  go_wp2_with fail
  go_ret2
  exact ⟨rfl, (unhide H3).1.below (belowD _ _), (unhide H3).2.drew _⟩
theorem sooner_off (n s : Int) (w : World) (h : Dev w g le gr false ar t la) : Calls Try.prog 44 #[.pointer (some ⟨g, 0, none⟩), .int .i64 n, .int .i64 s] w fun e w' => e = .returned (.bool false) ∧ w' = w := by
  have C := hide (live_any w h)
  clear h
  go_enter Try.func44, Try.ntmps44
  go_wp2_with (go_at_call 49; refine (unhide C).mono ?_; rintro e w1 ⟨rfl, rfl⟩)
  go_ret
  exact ⟨rfl, rfl⟩
theorem sooner_no (n s : Int) (w : World) (h : Dev w g le gr true true t la) (hn : neverB s = true ∨ t ≤ aimZ le gr n s) : Calls Try.prog 44 #[.pointer (some ⟨g, 0, none⟩), .int .i64 n, .int .i64 s] w fun e w' => e = .returned (.bool false) ∧ Dev w' g le gr true true t la ∧ Tch g w w' := by
  have C := hide (live_any w h)
  have CA := hide (aim_any w h n s)
  have H := hide h
  clear h
  obtain ⟨z, hz⟩ : ∃ z, aimZ le gr n s = z := ⟨_, rfl⟩
  obtain ⟨b, hb⟩ : ∃ b, neverB s = b := ⟨_, rfl⟩
  rw [hz, hb] at CA hn
  clear hz hb
  rcases hn with rfl | hle
  · go_enter Try.func44, Try.ntmps44
    go_wp2_with (first | (go_at_call 49; refine (unhide C).mono ?_; rintro e w1 ⟨rfl, rfl⟩) | (go_at_call 61; refine Hid.out ?_))
    refine hide ?_
    refine (unhide CA).mono ?_
    rintro e w2 ⟨rfl, hb2⟩
    have h2 := (unhide H).below hb2
    have c3 := h2.c3
    have c4 := h2.c4
    have H2 := hide (And.intro h2 hb2)
    clear h2 hb2
    go_wp2_with fail
    go_ret
    exact ⟨rfl, (unhide H2).1, Tch.of_below (unhide H2).2⟩
  · cases b
    all_goals
      go_enter Try.func44, Try.ntmps44
      go_wp2_with (first | (go_at_call 49; refine (unhide C).mono ?_; rintro e w1 ⟨rfl, rfl⟩) | (go_at_call 61; refine Hid.out ?_))
      refine hide ?_
      refine (unhide CA).mono ?_
      rintro e w2 ⟨rfl, hb2⟩
      have h2 := (unhide H).below hb2
      have c3 := h2.c3
      have c4 := h2.c4
      have H2 := hide (And.intro h2 hb2)
      clear h2 hb2
      go_wp2_with fail
      go_ret
      exact ⟨rfl, (unhide H2).1, Tch.of_below (unhide H2).2⟩
theorem sooner_yes (n s : Int) (w : World) (h : Dev w g le gr true ar t la) (hn : ar = false ∨ (neverB s = false ∧ ¬ t ≤ aimZ le gr n s)) : Calls Try.prog 44 #[.pointer (some ⟨g, 0, none⟩), .int .i64 n, .int .i64 s] w fun e w' => e = .returned (.bool (!neverB s)) ∧ Dev w' g le gr true (!neverB s) (aimZ le gr n s) la ∧ Tch g w w' := by
  have C := hide (live_any w h)
  have CA := hide (aim_any w h n s)
  have CP := hide (fun w' (hb : Below w.heap.size w w') => program_on n s w' (h.below hb))
  have H := hide h
  clear h
  obtain ⟨z, hz⟩ : ∃ z, aimZ le gr n s = z := ⟨_, rfl⟩
  obtain ⟨b, hb⟩ : ∃ b, neverB s = b := ⟨_, rfl⟩
  rw [hz, hb] at CA CP hn ⊢
  clear hz hb
  rcases hn with rfl | ⟨rfl, hle⟩
  · go_enter Try.func44, Try.ntmps44
    go_wp2_with (first | (go_at_call 49; refine (unhide C).mono ?_; rintro e w1 ⟨rfl, rfl⟩) | (go_at_call 61; refine Hid.out ?_))
    refine hide ?_
    refine (unhide CA).mono ?_
    rintro e w2 ⟨rfl, hb2⟩
    have h2 := (unhide H).below hb2
    have c3 := h2.c3
    have c4 := h2.c4
    have CP2 := hide (unhide CP w2 hb2)
    have H2 := hide hb2
    clear h2 hb2 CP
    go_wp2_with (go_at_call 43; refine Hid.out ?_)
    refine hide ?_
    refine (unhide CP2).mono ?_
    rintro e w3 ⟨rfl, h3, t3⟩
    have H3 := hide (And.intro h3 t3)
    clear h3 t3
    go_wp2_with fail
    go_ret
    exact ⟨rfl, (unhide H3).1, (Tch.of_below (unhide H2)).trans (unhide H3).2⟩
  · cases ar
    all_goals
      go_enter Try.func44, Try.ntmps44
      go_wp2_with (first | (go_at_call 49; refine (unhide C).mono ?_; rintro e w1 ⟨rfl, rfl⟩) | (go_at_call 61; refine Hid.out ?_))
      refine hide ?_
      refine (unhide CA).mono ?_
      rintro e w2 ⟨rfl, hb2⟩
      have h2 := (unhide H).below hb2
      have c3 := h2.c3
      have c4 := h2.c4
      have CP2 := hide (unhide CP w2 hb2)
      have H2 := hide hb2
      clear h2 hb2 CP
      go_wp2_with (go_at_call 43; refine Hid.out ?_)
      refine hide ?_
      refine (unhide CP2).mono ?_
      rintro e w3 ⟨rfl, h3, t3⟩
      have H3 := hide (And.intro h3 t3)
      clear h3 t3
      go_wp2_with fail
      go_ret
      exact ⟨rfl, (unhide H3).1, (Tch.of_below (unhide H2)).trans (unhide H3).2⟩
end
end Go.Proofs.Ytkglaklkbodjkaa
