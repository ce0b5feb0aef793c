import Derived.Test.YtkglaklkbodjkaaKt
import Derived.Test.YtkglaklkbodjkaaTch
import Derived.RegionTactic
import Derived.Deep.QuietTactic
import Derived.BigQuiet
import Derived.Deep.RegionHeld3
namespace Go.Proofs.Ytkglaklkbodjkaa
open Go.RowKit Kt

/-- The cells of a device. -/
def dv (le gr : Int) (li ar : Bool) (t : Int) (la : Bool) : Array Value := #[.int .i64 le, .int .i64 gr, .bool li, .bool ar, .int .i64 t, .bool la]
/-- A device. -/
def Dev (w : World) (g : Nat) (le gr : Int) (li ar : Bool) (t : Int) (la : Bool) : Prop := Blk w g 87 (dv le gr li ar t la)
/-- When it would be armed. -/
def aimZ (le gr now t : Int) : Int := if neverB t then 0 else betweenZ (addZ now le) t (addZ now gr)

section
variable {g : Nat} {le gr t : Int} {li ar la : Bool}
theorem Dev.c0 {w : World} (h : Dev w g le gr li ar t la) : w.cell? ⟨g, 0, none⟩ = some (.int .i64 le) := h.cell 0
theorem Dev.c1 {w : World} (h : Dev w g le gr li ar t la) : w.cell? ⟨g, 1, none⟩ = some (.int .i64 gr) := h.cell 1
theorem Dev.c2 {w : World} (h : Dev w g le gr li ar t la) : w.cell? ⟨g, 2, none⟩ = some (.bool li) := h.cell 2
theorem Dev.c3 {w : World} (h : Dev w g le gr li ar t la) : w.cell? ⟨g, 3, none⟩ = some (.bool ar) := h.cell 3
theorem Dev.c4 {w : World} (h : Dev w g le gr li ar t la) : w.cell? ⟨g, 4, none⟩ = some (.int .i64 t) := h.cell 4
theorem Dev.c5 {w : World} (h : Dev w g le gr li ar t la) : w.cell? ⟨g, 5, none⟩ = some (.bool la) := h.cell 5
theorem Dev.fr {w : World} (h : Dev w g le gr li ar t la) : ∀ j, w.frozen? ⟨g, j, none⟩ = false := Blk.free h
theorem Dev.below {w w' : World} (h : Dev w g le gr li ar t la) (hb : Below w.heap.size w w') : Dev w' g le gr li ar t la := Blk.below h hb (Blk.lt h)
theorem Dev.set2 {w : World} (h : Dev w g le gr li ar t la) (x : Bool) : Dev (w.setCell ⟨g, 2, none⟩ (.bool x)) g le gr x ar t la := Blk.put h 2 (.bool x)
theorem Dev.set3 {w : World} (h : Dev w g le gr li ar t la) (x : Bool) : Dev (w.setCell ⟨g, 3, none⟩ (.bool x)) g le gr li x t la := Blk.put h 3 (.bool x)
theorem Dev.set4 {w : World} (h : Dev w g le gr li ar t la) (x : Int) : Dev (w.setCell ⟨g, 4, none⟩ (.int .i64 x)) g le gr li ar x la := Blk.put h 4 (.int .i64 x)
theorem Dev.set5 {w : World} (h : Dev w g le gr li ar t la) (x : Bool) : Dev (w.setCell ⟨g, 5, none⟩ (.bool x)) g le gr li ar t x := Blk.put h 5 (.bool x)

theorem live_nil (w : World) : Calls Try.prog 49 #[.pointer none] w fun e w' => e = .returned (.bool false) ∧ w' = w := by
  go_enter Try.func49, Try.ntmps49
  go_wp2
  go_ret
  exact ⟨rfl, rfl⟩
theorem live_any (w : World) (h : Dev w g le gr li ar t la) : Calls Try.prog 49 #[.pointer (some ⟨g, 0, none⟩)] w fun e w' => e = .returned (.bool li) ∧ w' = w := by
  have c := h.c2
  clear h
  go_enter Try.func49, Try.ntmps49
  go_wp2
  go_ret
  exact ⟨rfl, rfl⟩
theorem latched_nil (w : World) : Calls Try.prog 40 #[.pointer none] w fun e w' => e = .returned (.bool false) ∧ w' = w := by
  go_enter Try.func40, Try.ntmps40
  go_wp2
  go_ret
  exact ⟨rfl, rfl⟩
theorem latched_any (w : World) (h : Dev w g le gr li ar t la) : Calls Try.prog 40 #[.pointer (some ⟨g, 0, none⟩)] w fun e w' => e = .returned (.bool la) ∧ w' = w := by
  have c := h.c5
  clear h
  go_enter Try.func40, Try.ntmps40
  go_wp2
  go_ret
  exact ⟨rfl, rfl⟩
theorem heldD {W : World} {a : Addr} {v : Value} (h : W.cell? a = some v) : ∀ w', Below W.heap.size W w' → w'.cell? a = some v := fun w' hb => by
  rw [hb.cell (World.block_lt_of_cell? W a h)]; exact h
theorem belowD (w : World) (n : Nat) : Below w.heap.size w (w.drewN n) := ⟨rfl, rfl, rfl, Nat.le_refl _, fun _ _ => rfl⟩
theorem armed_nil (w : World) : Calls Try.prog 38 #[.pointer none] w fun e w' => e = .returned (.tuple #[.int .i64 0, .bool false]) ∧ w' = w := by
  go_enter Try.func38, Try.ntmps38
  go_wp2
  go_ret2
  exact ⟨rfl, rfl⟩
theorem armed_any (w : World) (h : Dev w g le gr li ar t la) : Calls Try.prog 38 #[.pointer (some ⟨g, 0, none⟩)] w fun e w' => e = .returned (.tuple #[.int .i64 t, .bool ar]) ∧ Below w.heap.size w w' := by
  have c3 := h.c3
  have c4 := h.c4
  clear h
  go_enter Try.func38, Try.ntmps38
  go_wp2
  go_quiet (fail)
  go_wp2
  go_ret2
  exact ⟨rfl, belowD _ _⟩
set_option maxRecDepth 100000 in
theorem aim_any (w : World) (h : Dev w g le gr li ar t la) (now s : Int) : Calls Try.prog 61 #[.pointer (some ⟨g, 0, none⟩), .int .i64 now, .int .i64 s] w fun e w' => e = .returned (.tuple #[.int .i64 (aimZ le gr now s), .bool (!neverB s)]) ∧ Below w.heap.size w w' := by
  have c0 := heldD h.c0
  have c1 := heldD h.c1
  clear h
  cases hn : neverB s
  · have hz : aimZ le gr now s = betweenZ (addZ now le) s (addZ now gr) := if_neg (by rw [hn]; decide)
    rw [hz]
    clear hz
    have C := fun w' => hide (never_any s w')
    rw [hn] at C
    have C1 := fun x w' => hide (add_world now x w')
    have C3 := fun x y w' => hide (between_any x s y w')
    generalize addZ now = ad at *
    obtain ⟨be, hbe⟩ : ∃ be : Int → Int → Int, be = fun x y => betweenZ x s y := ⟨_, rfl⟩
    have C3 : ∀ x y w', Hid (Calls Try.prog 66 #[.int .i64 x, .int .i64 s, .int .i64 y] w' fun e w2 => e = .returned (.int .i64 (be x y)) ∧ w2 = w') := fun x y w' => by rw [hbe]; exact C3 x y w'
    have e3 : betweenZ (ad le) s (ad gr) = be (ad le) (ad gr) := by rw [hbe]
    rw [e3]
    clear e3 hbe
    clear hn
    go_enter Try.func61, Try.ntmps61
    go_wp2_with (go_at_call 65; refine (unhide (C _)).mono ?_; rintro e w1 ⟨rfl, rfl⟩)
    have S0 := Below.refl w1.heap.size w1
    refine wp_region_held_drew (S := (fun w' => Below w1.heap.size w1 w')) (by kernel_rfl) ?_ (fun hHeld => ?_)
    · (first | (first | exact S0.drew | assumption))
    refine wpAnyH_take (i := 0) (oi := ?o1) (v := ?v1) ?hi1 (by kernel_rfl) (by kernel_rfl) (by kernel_rfl) ?hQ1 (Or.inl ⟨?hw1, ?hy1⟩) (by assumption) ?_
    case hi1 => (simp only [List.getElem?_toArray, List.getElem?_cons_zero]; rfl)
    case hQ1 => exact fun _ _ _ h => h
    case hw1 => rfl
    case hy1 => (intro w hSw; (try dsimp only at hSw); go_simp; (try with_reducible rfl))
    simp only [Act.put, List.setIfInBounds_toArray, List.set_cons_zero, List.set_cons_succ]
    refine wpAnyH_take (i := 1) (oi := ?o2) (v := ?v2) ?hi2 (by kernel_rfl) (by kernel_rfl) (by kernel_rfl) ?hQ2 (Or.inl ⟨?hw2, ?hy2⟩) (by assumption) ?_
    case hi2 => (simp only [List.getElem?_toArray, List.getElem?_cons_succ, List.getElem?_cons_zero]; rfl)
    case hQ2 => exact fun _ _ _ h => h
    case hw2 => rfl
    case hy2 => (intro w hSw; (try dsimp only at hSw); go_simp; (try with_reducible rfl))
    simp only [Act.put, List.setIfInBounds_toArray, List.set_cons_zero, List.set_cons_succ]
    refine wpAnyH_take (i := 2) (oi := ?o3) (v := ?v3) ?hi3 (by kernel_rfl) (by kernel_rfl) (by kernel_rfl) ?hQ3 (Or.inl ⟨?hw3, ?hy3⟩) (by assumption) ?_
    case hi3 => (simp only [List.getElem?_toArray, List.getElem?_cons_succ, List.getElem?_cons_zero]; rfl)
    case hQ3 => exact fun _ _ _ h => h
    case hw3 => rfl
    case hy3 => (intro w hSw; (try dsimp only at hSw); go_simp; (try with_reducible rfl))
    simp only [Act.put, List.setIfInBounds_toArray, List.set_cons_zero, List.set_cons_succ]
    refine wpAnyH_take (i := 3) (oi := ?o4) (v := ?v4) ?hi4 (by kernel_rfl) (by kernel_rfl) (by kernel_rfl) ?hQ4 (Or.inl ⟨?hw4, ?hy4⟩) (by assumption) ?_
    case hi4 => (simp only [List.getElem?_toArray, List.getElem?_cons_succ, List.getElem?_cons_zero]; rfl)
    case hQ4 => exact fun _ _ _ h => h
    case hw4 => rfl
    case hy4 => (intro w hSw; (try dsimp only at hSw); go_simp; (try with_reducible rfl))
    simp only [Act.put, List.setIfInBounds_toArray, List.set_cons_zero, List.set_cons_succ]
    refine wpAnyH_take (i := 4) (oi := ?o5) (v := ?v5) ?hi5 (by kernel_rfl) (by kernel_rfl) (by kernel_rfl) ?hQ5 (Or.inl ⟨?hw5, ?hy5⟩) (by assumption) ?_
    case hi5 => (simp only [List.getElem?_toArray, List.getElem?_cons_succ, List.getElem?_cons_zero]; rfl)
    case hQ5 => exact fun _ _ _ h => h
    case hw5 => rfl
    case hy5 => (intro w hSw; (try dsimp only at hSw); go_simp; (try with_reducible rfl))
    simp only [Act.put, List.setIfInBounds_toArray, List.set_cons_zero, List.set_cons_succ]
    refine wpAnyH_take (i := 6) (oi := ?o6) (v := ?v6) ?hi6 (by kernel_rfl) (by kernel_rfl) (by kernel_rfl) ?hQ6 (Or.inl ⟨?hw6, ?hy6⟩) (by assumption) ?_
    case hi6 => (simp only [List.getElem?_toArray, List.getElem?_cons_succ, List.getElem?_cons_zero]; rfl)
    case hQ6 => exact fun _ _ _ h => h
    case hw6 => rfl
    case hy6 => (intro w hSw; (try dsimp only at hSw); go_simp; (try with_reducible rfl))
    simp only [Act.put, List.setIfInBounds_toArray, List.set_cons_zero, List.set_cons_succ]
    refine wpAnyH_take (i := 7) (oi := ?o7) (v := ?v7) ?hi7 (by kernel_rfl) (by kernel_rfl) (by kernel_rfl) ?hQ7 (Or.inl ⟨?hw7, ?hy7⟩) (by assumption) ?_
    case hi7 => (simp only [List.getElem?_toArray, List.getElem?_cons_succ, List.getElem?_cons_zero]; rfl)
    case hQ7 => exact fun _ _ _ h => h
    case hw7 => rfl
    case hy7 => (intro w hSw; (try dsimp only at hSw); go_simp; (try with_reducible rfl))
    simp only [Act.put, List.setIfInBounds_toArray, List.set_cons_zero, List.set_cons_succ]
    refine wpAnyH_take (i := 8) (oi := ?o8) (v := ?v8) ?hi8 (by kernel_rfl) (by kernel_rfl) (by kernel_rfl) ?hQ8 (Or.inl ⟨?hw8, ?hy8⟩) (by assumption) ?_
    case hi8 => (simp only [List.getElem?_toArray, List.getElem?_cons_succ, List.getElem?_cons_zero]; rfl)
    case hQ8 => exact fun _ _ _ h => h
    case hw8 => rfl
    case hy8 => (intro w hSw; (try dsimp only at hSw); go_simp; (try with_reducible rfl))
    simp only [Act.put, List.setIfInBounds_toArray, List.set_cons_zero, List.set_cons_succ]
    refine wpAnyH_take (i := 9) (oi := ?o9) (v := ?v9) ?hi9 (by kernel_rfl) (by kernel_rfl) (by kernel_rfl) ?hQ9 (Or.inl ⟨?hw9, ?hy9⟩) (by assumption) ?_
    case hi9 => (simp only [List.getElem?_toArray, List.getElem?_cons_succ, List.getElem?_cons_zero]; rfl)
    case hQ9 => exact fun _ _ _ h => h
    case hw9 => rfl
    case hy9 => (intro w hSw; (try dsimp only at hSw); go_simp; (try with_reducible rfl))
    simp only [Act.put, List.setIfInBounds_toArray, List.set_cons_zero, List.set_cons_succ]
    refine wpAnyH_take (i := 10) (oi := ?o10) (v := ?v10) ?hi10 (by kernel_rfl) (by kernel_rfl) (by kernel_rfl) ?hQ10 (Or.inl ⟨?hw10, ?hy10⟩) (by assumption) ?_
    case hi10 => (simp only [List.getElem?_toArray, List.getElem?_cons_succ, List.getElem?_cons_zero]; rfl)
    case hQ10 => exact fun _ _ _ h => h
    case hw10 => rfl
    case hy10 => (intro w hSw; (try dsimp only at hSw); go_simp; (try with_reducible rfl))
    simp only [Act.put, List.setIfInBounds_toArray, List.set_cons_zero, List.set_cons_succ]
    refine wpAnyH_take (i := 11) (oi := ?o11) (v := ?v11) ?hi11 (by kernel_rfl) (by kernel_rfl) (by kernel_rfl) ?hQ11 (Or.inl ⟨?hw11, ?hy11⟩) (by assumption) ?_
    case hi11 => (simp only [List.getElem?_toArray, List.getElem?_cons_succ, List.getElem?_cons_zero]; rfl)
    case hQ11 => exact fun _ _ _ h => h
    case hw11 => rfl
    case hy11 => (intro w hSw; (try dsimp only at hSw); go_simp; (try with_reducible rfl))
    simp only [Act.put, List.setIfInBounds_toArray, List.set_cons_zero, List.set_cons_succ]
    refine wpAnyH_ready (rs := [5]) (by kernel_rfl) (by simp) ?_
    refine AllReadyH.cons (o := ?o12) ?hi12 (fun K hK => ?_) AllReadyH.nil
    case hi12 => (simp only [List.getElem?_toArray, List.getElem?_cons_succ, List.getElem?_cons_zero]; rfl)
    go_simp
    (first | (go_at_call 64; refine (unhide (C1 _ _)).mono ?_; rintro e w4 ⟨rfl, rfl⟩) | (go_at_call 66; refine (unhide (C3 _ _ _)).mono ?_; rintro e w5 ⟨rfl, rfl⟩)); go_wp2_with fail
    refine hK.out _ _ ?_ (fun hHeld => ?_)
    · (first | (first | exact S0.drew | assumption))
    clear hK K
    refine wpAnyH_ready (rs := [12]) (by kernel_rfl) (by simp) ?_
    refine AllReadyH.cons (o := ?o13) ?hi13 (fun K hK => ?_) AllReadyH.nil
    case hi13 => (simp only [List.getElem?_toArray, List.getElem?_cons_succ, List.getElem?_cons_zero]; rfl)
    go_simp
    (first | (go_at_call 64; refine (unhide (C1 _ _)).mono ?_; rintro e w4 ⟨rfl, rfl⟩) | (go_at_call 66; refine (unhide (C3 _ _ _)).mono ?_; rintro e w5 ⟨rfl, rfl⟩)); go_wp2_with fail
    refine hK.out _ _ ?_ (fun hHeld => ?_)
    · (first | (first | exact S0.drew | assumption))
    clear hK K
    refine wpAnyH_ready (rs := [13]) (by kernel_rfl) (by simp) ?_
    refine AllReadyH.cons (o := ?o14) ?hi14 (fun K hK => ?_) AllReadyH.nil
    case hi14 => (simp only [List.getElem?_toArray, List.getElem?_cons_succ, List.getElem?_cons_zero]; rfl)
    go_simp
    (first | (go_at_call 64; refine (unhide (C1 _ _)).mono ?_; rintro e w4 ⟨rfl, rfl⟩) | (go_at_call 66; refine (unhide (C3 _ _ _)).mono ?_; rintro e w5 ⟨rfl, rfl⟩)); go_wp2_with fail
    refine hK.out _ _ ?_ (fun hHeld => ?_)
    · (first | (first | exact S0.drew | assumption))
    clear hK K
    refine wpAnyH_take (i := 14) (oi := ?o15) (v := ?v15) ?hi15 (by kernel_rfl) (by kernel_rfl) (by kernel_rfl) ?hQ15 (Or.inl ⟨?hw15, ?hy15⟩) (by assumption) ?_
    case hi15 => (simp only [List.getElem?_toArray, List.getElem?_cons_succ, List.getElem?_cons_zero]; rfl)
    case hQ15 => exact fun _ _ _ h => h
    case hw15 => rfl
    case hy15 => (intro w hSw; (try dsimp only at hSw); go_simp; (try with_reducible rfl))
    simp only [Act.put, List.setIfInBounds_toArray, List.set_cons_zero, List.set_cons_succ]
    refine wpAnyH_take (i := 15) (oi := ?o16) (v := ?v16) ?hi16 (by kernel_rfl) (by kernel_rfl) (by kernel_rfl) ?hQ16 (Or.inl ⟨?hw16, ?hy16⟩) (by assumption) ?_
    case hi16 => (simp only [List.getElem?_toArray, List.getElem?_cons_succ, List.getElem?_cons_zero]; rfl)
    case hQ16 => exact fun _ _ _ h => h
    case hw16 => rfl
    case hy16 => (intro w hSw; (try dsimp only at hSw); go_simp; (try with_reducible rfl))
    simp only [Act.put, List.setIfInBounds_toArray, List.set_cons_zero, List.set_cons_succ]
    refine wpAnyH_done (by kernel_rfl) ?_ _
    go_wp2
    go_ret2
    exact ⟨rfl, by assumption⟩
  · have hz : aimZ le gr now s = 0 := if_pos hn
    rw [hz]
    have C := fun w' => hide (never_any s w')
    rw [hn] at C
    clear hn hz
    go_enter Try.func61, Try.ntmps61
    go_wp2_with (go_at_call 65; refine (unhide (C _)).mono ?_; rintro e w1 ⟨rfl, rfl⟩)
    go_ret2
    exact ⟨rfl, Below.refl _ _⟩
theorem stop_any (w : World) (h : Dev w g le gr li ar t la) : Calls Try.prog 46 #[.pointer (some ⟨g, 0, none⟩)] w fun e w' => e = .returned (.tuple #[]) ∧ Dev w' g le gr li false 0 la ∧ Tch g w w' := by
  have f := h.fr
  have c3 := h.c3
  have c4 := h.c4
  have H := hide h
  clear h
  go_enter Try.func46, Try.ntmps46
  go_wp2
  go_end0
  exact ⟨rfl, ((unhide H).set4 0).set3 false, ((Tch.refl g w).set 4 _).set 3 _⟩
theorem on_any (w : World) (h : Dev w g le gr li ar t la) : Calls Try.prog 48 #[.pointer (some ⟨g, 0, none⟩)] w fun e w' => e = .returned (.tuple #[]) ∧ Dev w' g le gr true ar t la ∧ Tch g w w' := by
  have f := h.fr
  have c2 := h.c2
  have H := hide h
  clear h
  go_enter Try.func48, Try.ntmps48
  go_wp2
  go_end0
  exact ⟨rfl, (unhide H).set2 true, (Tch.refl g w).set 2 _⟩
end
/-- Which distances are right. -/
def okD (le gr : Int) : Bool := decide (0 ≤ le) && decide (le ≤ gr) && decide (1 ≤ gr) && decide (gr ≤ 1099511627776)
theorem dnew_any (le gr : Int) (w : World) (h0 : 0 ≤ le) (h1 : le ≤ gr) (h2 : 1 ≤ gr) (h3 : gr ≤ 1099511627776) : Calls Try.prog 37 #[.int .i64 le, .int .i64 gr] w fun e w' => e = .returned (.pointer (some ⟨w.heap.size, 0, none⟩)) ∧ Dev w' w.heap.size le gr true false 0 false ∧ Below w.heap.size w w' := by
  go_enter Try.func37, Try.ntmps37
  go_wp2
  go_ret
  exact ⟨rfl, Blk.new _ _ _, (Below.refl _ _).alloc (Nat.le_refl _) _⟩
theorem dnew_bad (le gr : Int) (w : World) (h : ¬ (0 ≤ le ∧ le ≤ gr ∧ 1 ≤ gr ∧ gr ≤ 1099511627776)) : Calls Try.prog 37 #[.int .i64 le, .int .i64 gr] w fun e w' => e = .returned (.pointer none) ∧ w' = w := by
  by_cases h0 : le < 0
  · go_enter Try.func37, Try.ntmps37
    go_wp2
    go_ret
    exact ⟨rfl, rfl⟩
  by_cases h1 : gr < le
  · go_enter Try.func37, Try.ntmps37
    go_wp2
    go_ret
    exact ⟨rfl, rfl⟩
  by_cases h2 : gr < 1
  · go_enter Try.func37, Try.ntmps37
    go_wp2
    go_ret
    exact ⟨rfl, rfl⟩
  have h3 : 1099511627776 < gr := by omega
  go_enter Try.func37, Try.ntmps37
  go_wp2
  go_ret
  exact ⟨rfl, rfl⟩
end Go.Proofs.Ytkglaklkbodjkaa
