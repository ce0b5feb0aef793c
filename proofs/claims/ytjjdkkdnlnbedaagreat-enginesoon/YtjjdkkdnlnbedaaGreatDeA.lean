import Derived.Test.YtjjdkkdnlnbedaaGreatTreeA
import Derived.Test.YtjjdkkdnlnbedaaGreatQueA
import Derived.RegionTactic
import Derived.Deep.QuietTactic
import Derived.BigQuiet
import Derived.Deep.RegionHeld3
namespace Go.Proofs.YtjjdkkdnlnbedaaGreat
open Go.RowKit

/-- Of what was there just the block g may have changed. -/
structure Tch (g : Nat) (w w' : World) : Prop where
  os : w'.os = w.os
  tape : w'.tape = w.tape
  output : w'.output = w.output
  size : w.heap.size ≤ w'.heap.size
  block : ∀ k, k < w.heap.size → k ≠ g → w'.heap[k]? = w.heap[k]?

section
variable {g : Nat} {a b c : World}
theorem Tch.refl (g : Nat) (w : World) : Tch g w w := ⟨rfl, rfl, rfl, Nat.le_refl _, fun _ _ _ => rfl⟩
theorem Tch.trans (h : Tch g a b) (k : Tch g b c) : Tch g a c :=
  ⟨k.os.trans h.os, k.tape.trans h.tape, k.output.trans h.output, Nat.le_trans h.size k.size, fun i hi h1 => (k.block i (Nat.lt_of_lt_of_le hi h.size) h1).trans (h.block i hi h1)⟩
theorem Tch.of_below (h : Below a.heap.size a b) : Tch g a b := ⟨h.os, h.tape, h.output, h.size, fun i hi _ => h.block i hi⟩
theorem Tch.drew (h : Tch g a b) (m : Nat) : Tch g a (b.drewN m) := ⟨h.os, h.tape, h.output, h.size, h.block⟩
theorem Tch.set (h : Tch g a b) (j : Nat) (v : Value) : Tch g a (b.setCell ⟨g, j, none⟩ v) :=
  ⟨h.os, h.tape, h.output, by simpa using h.size, fun i hi h1 => (Below.heap_setCell b ⟨g, j, none⟩ v i h1).trans (h.block i hi h1)⟩
theorem Blk.tch {g2 : Nat} {t : TypeId} {cs : Array Value} (h : Blk a g2 t cs) (ht : Tch g a b) (hn : g2 ≠ g) : Blk b g2 t cs := by
  have hl := h.lt
  unfold Blk at *
  rw [ht.block g2 hl hn]; exact h
theorem Tch.low {B : Nat} {w : World} (hb : Below B w a) (h : Tch g a b) (hg : B ≤ g) (hs : B ≤ a.heap.size) : Below B w b :=
  ⟨h.os.trans hb.os, h.tape.trans hb.tape, h.output.trans hb.output, Nat.le_trans hb.size h.size, fun i hi => (h.block i (by omega) (by omega)).trans (hb.block i hi)⟩
theorem Blk.drew {w : World} {g m : Nat} {t : TypeId} {cs : Array Value} (h : Blk w g t cs) : Blk (w.drewN m) g t cs := h
end
end Go.Proofs.YtjjdkkdnlnbedaaGreat


namespace Go.Proofs.YtjjdkkdnlnbedaaGreat
open Go.RowKit Kt

/-- The cells of a device. -/
def dv (le gr : Int) (li ar : Bool) (t : Int) (la : Bool) : Array Value := #[.int .i64 le, .int .i64 gr, .bool li, .bool ar, .int .i64 t, .bool la]
/-- A device. -/
def Dev (w : World) (g : Nat) (le gr : Int) (li ar : Bool) (t : Int) (la : Bool) : Prop := Blk w g 98 (dv le gr li ar t la)
/-- When it would be armed. -/
def aimZ (le gr now t : Int) : Int := if neverB t then 0 else betweenZ (addZ now le) t (addZ now gr)

section
variable {g : Nat} {le gr t : Int} {li ar la : Bool}
theorem Dev.c0 {w : World} (h : Dev w g le gr li ar t la) : w.cell? ⟨g, 0, none⟩ = some (.int .i64 le) := h.cell 0
theorem Dev.c1 {w : World} (h : Dev w g le gr li ar t la) : w.cell? ⟨g, 1, none⟩ = some (.int .i64 gr) := h.cell 1
theorem Dev.c2 {w : World} (h : Dev w g le gr li ar t la) : w.cell? ⟨g, 2, none⟩ = some (.bool li) := h.cell 2
theorem Dev.c3 {w : World} (h : Dev w g le gr li ar t la) : w.cell? ⟨g, 3, none⟩ = some (.bool ar) := h.cell 3
theorem Dev.c4 {w : World} (h : Dev w g le gr li ar t la) : w.cell? ⟨g, 4, none⟩ = some (.int .i64 t) := h.cell 4
theorem Dev.c5 {w : World} (h : Dev w g le gr li ar t la) : w.cell? ⟨g, 5, none⟩ = some (.bool la) := h.cell 5
theorem Dev.fr {w : World} (h : Dev w g le gr li ar t la) : ∀ j, w.frozen? ⟨g, j, none⟩ = false := Blk.free h
theorem Dev.below {w w' : World} (h : Dev w g le gr li ar t la) (hb : Below w.heap.size w w') : Dev w' g le gr li ar t la := Blk.below h hb (Blk.lt h)
theorem Dev.set2 {w : World} (h : Dev w g le gr li ar t la) (x : Bool) : Dev (w.setCell ⟨g, 2, none⟩ (.bool x)) g le gr x ar t la := Blk.put h 2 (.bool x)
theorem Dev.set3 {w : World} (h : Dev w g le gr li ar t la) (x : Bool) : Dev (w.setCell ⟨g, 3, none⟩ (.bool x)) g le gr li x t la := Blk.put h 3 (.bool x)
theorem Dev.set4 {w : World} (h : Dev w g le gr li ar t la) (x : Int) : Dev (w.setCell ⟨g, 4, none⟩ (.int .i64 x)) g le gr li ar x la := Blk.put h 4 (.int .i64 x)
theorem Dev.set5 {w : World} (h : Dev w g le gr li ar t la) (x : Bool) : Dev (w.setCell ⟨g, 5, none⟩ (.bool x)) g le gr li ar t x := Blk.put h 5 (.bool x)

theorem live_nil (w : World) : Calls Tryz.prog 115 #[.pointer none] w fun e w' => e = .returned (.bool false) ∧ w' = w := by
  go_enter Tryz.func115, Tryz.ntmps115
  go_wp2
  go_ret
  exact ⟨rfl, rfl⟩
theorem live_any (w : World) (h : Dev w g le gr li ar t la) : Calls Tryz.prog 115 #[.pointer (some ⟨g, 0, none⟩)] w fun e w' => e = .returned (.bool li) ∧ w' = w := by
  have c := h.c2
  clear h
  go_enter Tryz.func115, Tryz.ntmps115
  go_wp2
  go_ret
  exact ⟨rfl, rfl⟩
theorem latched_nil (w : World) : Calls Tryz.prog 57 #[.pointer none] w fun e w' => e = .returned (.bool false) ∧ w' = w := by
  go_enter Tryz.func57, Tryz.ntmps57
  go_wp2
  go_ret
  exact ⟨rfl, rfl⟩
theorem latched_any (w : World) (h : Dev w g le gr li ar t la) : Calls Tryz.prog 57 #[.pointer (some ⟨g, 0, none⟩)] w fun e w' => e = .returned (.bool la) ∧ w' = w := by
  have c := h.c5
  clear h
  go_enter Tryz.func57, Tryz.ntmps57
  go_wp2
  go_ret
  exact ⟨rfl, rfl⟩
theorem heldD {W : World} {a : Addr} {v : Value} (h : W.cell? a = some v) : ∀ w', Below W.heap.size W w' → w'.cell? a = some v := fun w' hb => by
  rw [hb.cell (World.block_lt_of_cell? W a h)]; exact h
theorem belowD (w : World) (n : Nat) : Below w.heap.size w (w.drewN n) := ⟨rfl, rfl, rfl, Nat.le_refl _, fun _ _ => rfl⟩
theorem armed_nil (w : World) : Calls Tryz.prog 58 #[.pointer none] w fun e w' => e = .returned (.tuple #[.int .i64 0, .bool false]) ∧ w' = w := by
  go_enter Tryz.func58, Tryz.ntmps58
  go_wp2
  go_ret2
  exact ⟨rfl, rfl⟩
theorem armed_any (w : World) (h : Dev w g le gr li ar t la) : Calls Tryz.prog 58 #[.pointer (some ⟨g, 0, none⟩)] w fun e w' => e = .returned (.tuple #[.int .i64 t, .bool ar]) ∧ Below w.heap.size w w' := by
  have c3 := h.c3
  have c4 := h.c4
  clear h
  go_enter Tryz.func58, Tryz.ntmps58
  go_wp2
  go_quiet (fail)
  go_wp2
  go_ret2
  exact ⟨rfl, belowD _ _⟩
set_option maxRecDepth 100000 in
theorem aim_any (w : World) (h : Dev w g le gr li ar t la) (now s : Int) : Calls Tryz.prog 116 #[.pointer (some ⟨g, 0, none⟩), .int .i64 now, .int .i64 s] w fun e w' => e = .returned (.tuple #[.int .i64 (aimZ le gr now s), .bool (!neverB s)]) ∧ Below w.heap.size w w' := by
  have c0 := heldD h.c0
  have c1 := heldD h.c1
  clear h
  cases hn : neverB s
  · have hz : aimZ le gr now s = betweenZ (addZ now le) s (addZ now gr) := if_neg (by rw [hn]; decide)
    rw [hz]
    clear hz
    have C := fun w' => hide (never_any s w')
    rw [hn] at C
    have C1 := fun x w' => hide (add_world now x w')
    have C3 := fun x y w' => hide (between_any x s y w')
    generalize addZ now = ad at *
    obtain ⟨be, hbe⟩ : ∃ be : Int → Int → Int, be = fun x y => betweenZ x s y := ⟨_, rfl⟩
    have C3 : ∀ x y w', Hid (Calls Tryz.prog 129 #[.int .i64 x, .int .i64 s, .int .i64 y] w' fun e w2 => e = .returned (.int .i64 (be x y)) ∧ w2 = w') := fun x y w' => by rw [hbe]; exact C3 x y w'
    have e3 : betweenZ (ad le) s (ad gr) = be (ad le) (ad gr) := by rw [hbe]
    rw [e3]
    clear e3 hbe
    clear hn
    go_enter Tryz.func116, Tryz.ntmps116
    go_wp2_with (go_at_call 128; refine (unhide (C _)).mono ?_; rintro e w1 ⟨rfl, rfl⟩)
    have S0 := Below.refl w1.heap.size w1
    refine wp_region_held_drew (S := (fun w' => Below w1.heap.size w1 w')) (by kernel_rfl) ?_ (fun hHeld => ?_)
    · (first | (first | exact S0.drew | assumption))
    refine wpAnyH_take (i := 0) (oi := ?o1) (v := ?v1) ?hi1 (by kernel_rfl) (by kernel_rfl) (by kernel_rfl) ?hQ1 (Or.inl ⟨?hw1, ?hy1⟩) (by assumption) ?_
    case hi1 => (simp only [List.getElem?_toArray, List.getElem?_cons_zero]; rfl)
    case hQ1 => exact fun _ _ _ h => h
    case hw1 => rfl
    case hy1 => (intro w hSw; (try dsimp only at hSw); go_simp; (try with_reducible rfl))
    simp only [Act.put, List.setIfInBounds_toArray, List.set_cons_zero, List.set_cons_succ]
    refine wpAnyH_take (i := 1) (oi := ?o2) (v := ?v2) ?hi2 (by kernel_rfl) (by kernel_rfl) (by kernel_rfl) ?hQ2 (Or.inl ⟨?hw2, ?hy2⟩) (by assumption) ?_
    case hi2 => (simp only [List.getElem?_toArray, List.getElem?_cons_succ, List.getElem?_cons_zero]; rfl)
    case hQ2 => exact fun _ _ _ h => h
    case hw2 => rfl
    case hy2 => (intro w hSw; (try dsimp only at hSw); go_simp; (try with_reducible rfl))
    simp only [Act.put, List.setIfInBounds_toArray, List.set_cons_zero, List.set_cons_succ]
    refine wpAnyH_take (i := 2) (oi := ?o3) (v := ?v3) ?hi3 (by kernel_rfl) (by kernel_rfl) (by kernel_rfl) ?hQ3 (Or.inl ⟨?hw3, ?hy3⟩) (by assumption) ?_
    case hi3 => (simp only [List.getElem?_toArray, List.getElem?_cons_succ, List.getElem?_cons_zero]; rfl)
    case hQ3 => exact fun _ _ _ h => h
    case hw3 => rfl
    case hy3 => (intro w hSw; (try dsimp only at hSw); go_simp; (try with_reducible rfl))
    simp only [Act.put, List.setIfInBounds_toArray, List.set_cons_zero, List.set_cons_succ]
    refine wpAnyH_take (i := 3) (oi := ?o4) (v := ?v4) ?hi4 (by kernel_rfl) (by kernel_rfl) (by kernel_rfl) ?hQ4 (Or.inl ⟨?hw4, ?hy4⟩) (by assumption) ?_
    case hi4 => (simp only [List.getElem?_toArray, List.getElem?_cons_succ, List.getElem?_cons_zero]; rfl)
    case hQ4 => exact fun _ _ _ h => h
    case hw4 => rfl
    case hy4 => (intro w hSw; (try dsimp only at hSw); go_simp; (try with_reducible rfl))
    simp only [Act.put, List.setIfInBounds_toArray, List.set_cons_zero, List.set_cons_succ]
    refine wpAnyH_take (i := 4) (oi := ?o5) (v := ?v5) ?hi5 (by kernel_rfl) (by kernel_rfl) (by kernel_rfl) ?hQ5 (Or.inl ⟨?hw5, ?hy5⟩) (by assumption) ?_
    case hi5 => (simp only [List.getElem?_toArray, List.getElem?_cons_succ, List.getElem?_cons_zero]; rfl)
    case hQ5 => exact fun _ _ _ h => h
    case hw5 => rfl
    case hy5 => (intro w hSw; (try dsimp only at hSw); go_simp; (try with_reducible rfl))
    simp only [Act.put, List.setIfInBounds_toArray, List.set_cons_zero, List.set_cons_succ]
    refine wpAnyH_take (i := 6) (oi := ?o6) (v := ?v6) ?hi6 (by kernel_rfl) (by kernel_rfl) (by kernel_rfl) ?hQ6 (Or.inl ⟨?hw6, ?hy6⟩) (by assumption) ?_
    case hi6 => (simp only [List.getElem?_toArray, List.getElem?_cons_succ, List.getElem?_cons_zero]; rfl)
    case hQ6 => exact fun _ _ _ h => h
    case hw6 => rfl
    case hy6 => (intro w hSw; (try dsimp only at hSw); go_simp; (try with_reducible rfl))
    simp only [Act.put, List.setIfInBounds_toArray, List.set_cons_zero, List.set_cons_succ]
    refine wpAnyH_take (i := 7) (oi := ?o7) (v := ?v7) ?hi7 (by kernel_rfl) (by kernel_rfl) (by kernel_rfl) ?hQ7 (Or.inl ⟨?hw7, ?hy7⟩) (by assumption) ?_
    case hi7 => (simp only [List.getElem?_toArray, List.getElem?_cons_succ, List.getElem?_cons_zero]; rfl)
    case hQ7 => exact fun _ _ _ h => h
    case hw7 => rfl
    case hy7 => (intro w hSw; (try dsimp only at hSw); go_simp; (try with_reducible rfl))
    simp only [Act.put, List.setIfInBounds_toArray, List.set_cons_zero, List.set_cons_succ]
    refine wpAnyH_take (i := 8) (oi := ?o8) (v := ?v8) ?hi8 (by kernel_rfl) (by kernel_rfl) (by kernel_rfl) ?hQ8 (Or.inl ⟨?hw8, ?hy8⟩) (by assumption) ?_
    case hi8 => (simp only [List.getElem?_toArray, List.getElem?_cons_succ, List.getElem?_cons_zero]; rfl)
    case hQ8 => exact fun _ _ _ h => h
    case hw8 => rfl
    case hy8 => (intro w hSw; (try dsimp only at hSw); go_simp; (try with_reducible rfl))
    simp only [Act.put, List.setIfInBounds_toArray, List.set_cons_zero, List.set_cons_succ]
    refine wpAnyH_take (i := 9) (oi := ?o9) (v := ?v9) ?hi9 (by kernel_rfl) (by kernel_rfl) (by kernel_rfl) ?hQ9 (Or.inl ⟨?hw9, ?hy9⟩) (by assumption) ?_
    case hi9 => (simp only [List.getElem?_toArray, List.getElem?_cons_succ, List.getElem?_cons_zero]; rfl)
    case hQ9 => exact fun _ _ _ h => h
    case hw9 => rfl
    case hy9 => (intro w hSw; (try dsimp only at hSw); go_simp; (try with_reducible rfl))
    simp only [Act.put, List.setIfInBounds_toArray, List.set_cons_zero, List.set_cons_succ]
    refine wpAnyH_take (i := 10) (oi := ?o10) (v := ?v10) ?hi10 (by kernel_rfl) (by kernel_rfl) (by kernel_rfl) ?hQ10 (Or.inl ⟨?hw10, ?hy10⟩) (by assumption) ?_
    case hi10 => (simp only [List.getElem?_toArray, List.getElem?_cons_succ, List.getElem?_cons_zero]; rfl)
    case hQ10 => exact fun _ _ _ h => h
    case hw10 => rfl
    case hy10 => (intro w hSw; (try dsimp only at hSw); go_simp; (try with_reducible rfl))
    simp only [Act.put, List.setIfInBounds_toArray, List.set_cons_zero, List.set_cons_succ]
    refine wpAnyH_take (i := 11) (oi := ?o11) (v := ?v11) ?hi11 (by kernel_rfl) (by kernel_rfl) (by kernel_rfl) ?hQ11 (Or.inl ⟨?hw11, ?hy11⟩) (by assumption) ?_
    case hi11 => (simp only [List.getElem?_toArray, List.getElem?_cons_succ, List.getElem?_cons_zero]; rfl)
    case hQ11 => exact fun _ _ _ h => h
    case hw11 => rfl
    case hy11 => (intro w hSw; (try dsimp only at hSw); go_simp; (try with_reducible rfl))
    simp only [Act.put, List.setIfInBounds_toArray, List.set_cons_zero, List.set_cons_succ]
    refine wpAnyH_ready (rs := [5]) (by kernel_rfl) (by simp) ?_
    refine AllReadyH.cons (o := ?o12) ?hi12 (fun K hK => ?_) AllReadyH.nil
    case hi12 => (simp only [List.getElem?_toArray, List.getElem?_cons_succ, List.getElem?_cons_zero]; rfl)
    go_simp
    (first | (go_at_call 130; refine (unhide (C1 _ _)).mono ?_; rintro e w4 ⟨rfl, rfl⟩) | (go_at_call 129; refine (unhide (C3 _ _ _)).mono ?_; rintro e w5 ⟨rfl, rfl⟩)); go_wp2_with fail
    refine hK.out _ _ ?_ (fun hHeld => ?_)
    · (first | (first | exact S0.drew | assumption))
    clear hK K
    refine wpAnyH_ready (rs := [12]) (by kernel_rfl) (by simp) ?_
    refine AllReadyH.cons (o := ?o13) ?hi13 (fun K hK => ?_) AllReadyH.nil
    case hi13 => (simp only [List.getElem?_toArray, List.getElem?_cons_succ, List.getElem?_cons_zero]; rfl)
    go_simp
    (first | (go_at_call 130; refine (unhide (C1 _ _)).mono ?_; rintro e w4 ⟨rfl, rfl⟩) | (go_at_call 129; refine (unhide (C3 _ _ _)).mono ?_; rintro e w5 ⟨rfl, rfl⟩)); go_wp2_with fail
    refine hK.out _ _ ?_ (fun hHeld => ?_)
    · (first | (first | exact S0.drew | assumption))
    clear hK K
    refine wpAnyH_ready (rs := [13]) (by kernel_rfl) (by simp) ?_
    refine AllReadyH.cons (o := ?o14) ?hi14 (fun K hK => ?_) AllReadyH.nil
    case hi14 => (simp only [List.getElem?_toArray, List.getElem?_cons_succ, List.getElem?_cons_zero]; rfl)
    go_simp
    (first | (go_at_call 130; refine (unhide (C1 _ _)).mono ?_; rintro e w4 ⟨rfl, rfl⟩) | (go_at_call 129; refine (unhide (C3 _ _ _)).mono ?_; rintro e w5 ⟨rfl, rfl⟩)); go_wp2_with fail
    refine hK.out _ _ ?_ (fun hHeld => ?_)
    · (first | (first | exact S0.drew | assumption))
    clear hK K
    refine wpAnyH_take (i := 14) (oi := ?o15) (v := ?v15) ?hi15 (by kernel_rfl) (by kernel_rfl) (by kernel_rfl) ?hQ15 (Or.inl ⟨?hw15, ?hy15⟩) (by assumption) ?_
    case hi15 => (simp only [List.getElem?_toArray, List.getElem?_cons_succ, List.getElem?_cons_zero]; rfl)
    case hQ15 => exact fun _ _ _ h => h
    case hw15 => rfl
    case hy15 => (intro w hSw; (try dsimp only at hSw); go_simp; (try with_reducible rfl))
    simp only [Act.put, List.setIfInBounds_toArray, List.set_cons_zero, List.set_cons_succ]
    refine wpAnyH_take (i := 15) (oi := ?o16) (v := ?v16) ?hi16 (by kernel_rfl) (by kernel_rfl) (by kernel_rfl) ?hQ16 (Or.inl ⟨?hw16, ?hy16⟩) (by assumption) ?_
    case hi16 => (simp only [List.getElem?_toArray, List.getElem?_cons_succ, List.getElem?_cons_zero]; rfl)
    case hQ16 => exact fun _ _ _ h => h
    case hw16 => rfl
    case hy16 => (intro w hSw; (try dsimp only at hSw); go_simp; (try with_reducible rfl))
    simp only [Act.put, List.setIfInBounds_toArray, List.set_cons_zero, List.set_cons_succ]
    refine wpAnyH_done (by kernel_rfl) ?_ _
    go_wp2
    go_ret2
    exact ⟨rfl, by assumption⟩
  · have hz : aimZ le gr now s = 0 := if_pos hn
    rw [hz]
    have C := fun w' => hide (never_any s w')
    rw [hn] at C
    clear hn hz
    go_enter Tryz.func116, Tryz.ntmps116
    go_wp2_with (go_at_call 128; refine (unhide (C _)).mono ?_; rintro e w1 ⟨rfl, rfl⟩)
    go_ret2
    exact ⟨rfl, Below.refl _ _⟩
theorem stop_any (w : World) (h : Dev w g le gr li ar t la) : Calls Tryz.prog 99 #[.pointer (some ⟨g, 0, none⟩)] w fun e w' => e = .returned (.tuple #[]) ∧ Dev w' g le gr li false 0 la ∧ Tch g w w' := by
  have f := h.fr
  have c3 := h.c3
  have c4 := h.c4
  have H := hide h
  clear h
  go_enter Tryz.func99, Tryz.ntmps99
  go_wp2
  go_end0
  exact ⟨rfl, ((unhide H).set4 0).set3 false, ((Tch.refl g w).set 4 _).set 3 _⟩
theorem on_any (w : World) (h : Dev w g le gr li ar t la) : Calls Tryz.prog 79 #[.pointer (some ⟨g, 0, none⟩)] w fun e w' => e = .returned (.tuple #[]) ∧ Dev w' g le gr true ar t la ∧ Tch g w w' := by
  have f := h.fr
  have c2 := h.c2
  have H := hide h
  clear h
  go_enter Tryz.func79, Tryz.ntmps79
  go_wp2
  go_end0
  exact ⟨rfl, (unhide H).set2 true, (Tch.refl g w).set 2 _⟩
end
/-- Which distances are right. -/
def okD (le gr : Int) : Bool := decide (0 ≤ le) && decide (le ≤ gr) && decide (1 ≤ gr) && decide (gr ≤ 1099511627776)
theorem dnew_any (le gr : Int) (w : World) (h0 : 0 ≤ le) (h1 : le ≤ gr) (h2 : 1 ≤ gr) (h3 : gr ≤ 1099511627776) : Calls Tryz.prog 23 #[.int .i64 le, .int .i64 gr] w fun e w' => e = .returned (.pointer (some ⟨w.heap.size, 0, none⟩)) ∧ Dev w' w.heap.size le gr true false 0 false ∧ Below w.heap.size w w' := by
  go_enter Tryz.func23, Tryz.ntmps23
  go_wp2
  go_ret
  exact ⟨rfl, Blk.new _ _ _, (Below.refl _ _).alloc (Nat.le_refl _) _⟩
theorem dnew_bad (le gr : Int) (w : World) (h : ¬ (0 ≤ le ∧ le ≤ gr ∧ 1 ≤ gr ∧ gr ≤ 1099511627776)) : Calls Tryz.prog 23 #[.int .i64 le, .int .i64 gr] w fun e w' => e = .returned (.pointer none) ∧ w' = w := by
  by_cases h0 : le < 0
  · go_enter Tryz.func23, Tryz.ntmps23
    go_wp2
    go_ret
    exact ⟨rfl, rfl⟩
  by_cases h1 : gr < le
  · go_enter Tryz.func23, Tryz.ntmps23
    go_wp2
    go_ret
    exact ⟨rfl, rfl⟩
  by_cases h2 : gr < 1
  · go_enter Tryz.func23, Tryz.ntmps23
    go_wp2
    go_ret
    exact ⟨rfl, rfl⟩
  have h3 : 1099511627776 < gr := by omega
  go_enter Tryz.func23, Tryz.ntmps23
  go_wp2
  go_ret
  exact ⟨rfl, rfl⟩
end Go.Proofs.YtjjdkkdnlnbedaaGreat


namespace Go.Proofs.YtjjdkkdnlnbedaaGreat
open Go.RowKit Kt

section
variable {g : Nat} {le gr t : Int} {li ar la : Bool}
theorem take_nil (w : World) : Calls Tryz.prog 70 #[.pointer none] w fun e w' => e = .returned (.bool false) ∧ w' = w := by
  go_enter Tryz.func70, Tryz.ntmps70
  go_wp2_with (go_at_call 57; refine (latched_nil _).mono ?_; rintro e w1 ⟨rfl, rfl⟩)
  go_ret
  exact ⟨rfl, rfl⟩
theorem take_any (w : World) (h : Dev w g le gr li ar t la) : Calls Tryz.prog 70 #[.pointer (some ⟨g, 0, none⟩)] w fun e w' => e = .returned (.bool la) ∧ Dev w' g le gr li ar t false ∧ Tch g w w' := by
  have f := h.fr
  have c5 := h.c5
  have C := hide (latched_any w h)
  have H := hide h
  clear h
  cases la
  · go_enter Tryz.func70, Tryz.ntmps70
    go_wp2_with (go_at_call 57; refine (unhide C).mono ?_; rintro e w1 ⟨rfl, rfl⟩)
    go_ret
    exact ⟨rfl, unhide H, Tch.refl _ _⟩
  · go_enter Tryz.func70, Tryz.ntmps70
    go_wp2_with (go_at_call 57; refine (unhide C).mono ?_; rintro e w1 ⟨rfl, rfl⟩)
    go_ret
    exact ⟨rfl, (unhide H).set5 false, (Tch.refl g _).set 5 _⟩
theorem off_any (w : World) (h : Dev w g le gr li ar t la) : Calls Tryz.prog 78 #[.pointer (some ⟨g, 0, none⟩)] w fun e w' => e = .returned (.tuple #[]) ∧ Dev w' g le gr false false 0 false ∧ Tch g w w' := by
  have C := hide (stop_any w h)
  clear h
  go_enter Tryz.func78, Tryz.ntmps78
  go_wp2_with (go_at_call 99; refine Hid.out ?_)
  refine hide ?_
  refine (unhide C).mono ?_
  rintro e w1 ⟨rfl, h1, t1⟩
  have f := h1.fr
  have c2 := h1.c2
  have c5 := h1.c5
  have H := hide (And.intro h1 t1)
  clear h1 t1
  go_wp2_with fail
  go_end0
  exact ⟨rfl, ((unhide H).1.set2 false).set5 false, ((unhide H).2.set 2 _).set 5 _⟩
theorem pass_nil (n : Int) (w : World) : Calls Tryz.prog 69 #[.pointer none, .int .i64 n] w fun e w' => e = .returned (.bool false) ∧ Below w.heap.size w w' := by
  go_enter Tryz.func69, Tryz.ntmps69
  go_wp2
  have S0 := Below.refl w.heap.size w
  refine wp_region_held_drew (S := (fun w' => Below w.heap.size w w')) (by kernel_rfl) ?_ (fun hHeld => ?_)
  · (first | (first | exact S0.drew | assumption))
  refine wpAnyH_take (i := 0) (oi := ?o17) (v := ?v17) ?hi17 (by kernel_rfl) (by kernel_rfl) (by kernel_rfl) ?hQ17 (Or.inl ⟨?hw17, ?hy17⟩) (by assumption) ?_
  case hi17 => (simp only [List.getElem?_toArray, List.getElem?_cons_zero]; rfl)
  case hQ17 => exact fun _ _ _ h => h
  case hw17 => rfl
  case hy17 => (intro w hSw; (try dsimp only at hSw); go_simp; (try with_reducible rfl))
  simp only [Act.put, List.setIfInBounds_toArray, List.set_cons_zero, List.set_cons_succ]
  refine wpAnyH_take (i := 1) (oi := ?o18) (v := ?v18) ?hi18 (by kernel_rfl) (by kernel_rfl) (by kernel_rfl) ?hQ18 (Or.inl ⟨?hw18, ?hy18⟩) (by assumption) ?_
  case hi18 => (simp only [List.getElem?_toArray, List.getElem?_cons_succ, List.getElem?_cons_zero]; rfl)
  case hQ18 => exact fun _ _ _ h => h
  case hw18 => rfl
  case hy18 => (intro w hSw; (try dsimp only at hSw); go_simp; (try with_reducible rfl))
  simp only [Act.put, List.setIfInBounds_toArray, List.set_cons_zero, List.set_cons_succ]
  refine wpAnyH_take (i := 2) (oi := ?o19) (v := ?v19) ?hi19 (by kernel_rfl) (by kernel_rfl) (by kernel_rfl) ?hQ19 (Or.inl ⟨?hw19, ?hy19⟩) (by assumption) ?_
  case hi19 => (simp only [List.getElem?_toArray, List.getElem?_cons_succ, List.getElem?_cons_zero]; rfl)
  case hQ19 => exact fun _ _ _ h => h
  case hw19 => rfl
  case hy19 => (intro w hSw; (try dsimp only at hSw); go_simp; (try with_reducible rfl))
  simp only [Act.put, List.setIfInBounds_toArray, List.set_cons_zero, List.set_cons_succ]
  refine wpAnyH_take (i := 3) (oi := ?o20) (v := undef) ?hi20 (by kernel_rfl) (by kernel_rfl) (by kernel_rfl) ?hQ20 (Or.inr ⟨?hw20, rfl⟩) (by assumption) ?_
  case hi20 => (simp only [List.getElem?_toArray, List.getElem?_cons_succ, List.getElem?_cons_zero]; rfl)
  case hQ20 => exact fun _ _ _ h => h
  case hw20 => rfl
  simp only [Act.put, List.setIfInBounds_toArray, List.set_cons_zero, List.set_cons_succ]
  refine wpAnyH_take (i := 4) (oi := ?o21) (v := undef) ?hi21 (by kernel_rfl) (by kernel_rfl) (by kernel_rfl) ?hQ21 (Or.inr ⟨?hw21, rfl⟩) (by assumption) ?_
  case hi21 => (simp only [List.getElem?_toArray, List.getElem?_cons_succ, List.getElem?_cons_zero]; rfl)
  case hQ21 => exact fun _ _ _ h => h
  case hw21 => rfl
  simp only [Act.put, List.setIfInBounds_toArray, List.set_cons_zero, List.set_cons_succ]
  refine wpAnyH_take (i := 5) (oi := ?o22) (v := undef) ?hi22 (by kernel_rfl) (by kernel_rfl) (by kernel_rfl) ?hQ22 (Or.inr ⟨?hw22, rfl⟩) (by assumption) ?_
  case hi22 => (simp only [List.getElem?_toArray, List.getElem?_cons_succ, List.getElem?_cons_zero]; rfl)
  case hQ22 => exact fun _ _ _ h => h
  case hw22 => rfl
  simp only [Act.put, List.setIfInBounds_toArray, List.set_cons_zero, List.set_cons_succ]
  refine wpAnyH_take (i := 6) (oi := ?o23) (v := undef) ?hi23 (by kernel_rfl) (by kernel_rfl) (by kernel_rfl) ?hQ23 (Or.inr ⟨?hw23, rfl⟩) (by assumption) ?_
  case hi23 => (simp only [List.getElem?_toArray, List.getElem?_cons_succ, List.getElem?_cons_zero]; rfl)
  case hQ23 => exact fun _ _ _ h => h
  case hw23 => rfl
  simp only [Act.put, List.setIfInBounds_toArray, List.set_cons_zero, List.set_cons_succ]
  refine wpAnyH_take (i := 7) (oi := ?o24) (v := undef) ?hi24 (by kernel_rfl) (by kernel_rfl) (by kernel_rfl) ?hQ24 (Or.inr ⟨?hw24, rfl⟩) (by assumption) ?_
  case hi24 => (simp only [List.getElem?_toArray, List.getElem?_cons_succ, List.getElem?_cons_zero]; rfl)
  case hQ24 => exact fun _ _ _ h => h
  case hw24 => rfl
  simp only [Act.put, List.setIfInBounds_toArray, List.set_cons_zero, List.set_cons_succ]
  refine wpAnyH_take (i := 8) (oi := ?o25) (v := ?v25) ?hi25 (by kernel_rfl) (by kernel_rfl) (by kernel_rfl) ?hQ25 (Or.inl ⟨?hw25, ?hy25⟩) (by assumption) ?_
  case hi25 => (simp only [List.getElem?_toArray, List.getElem?_cons_succ, List.getElem?_cons_zero]; rfl)
  case hQ25 => exact fun _ _ _ h => h
  case hw25 => rfl
  case hy25 => (intro w hSw; (try dsimp only at hSw); go_simp; (try with_reducible rfl))
  simp only [Act.put, List.setIfInBounds_toArray, List.set_cons_zero, List.set_cons_succ]
  refine wpAnyH_take (i := 9) (oi := ?o26) (v := ?v26) ?hi26 (by kernel_rfl) (by kernel_rfl) (by kernel_rfl) ?hQ26 (Or.inl ⟨?hw26, ?hy26⟩) (by assumption) ?_
  case hi26 => (simp only [List.getElem?_toArray, List.getElem?_cons_succ, List.getElem?_cons_zero]; rfl)
  case hQ26 => exact fun _ _ _ h => h
  case hw26 => rfl
  case hy26 => (intro w hSw; (try dsimp only at hSw); go_simp; (try with_reducible rfl))
  simp only [Act.put, List.setIfInBounds_toArray, List.set_cons_zero, List.set_cons_succ]
  refine wpAnyH_take (i := 10) (oi := ?o27) (v := undef) ?hi27 (by kernel_rfl) (by kernel_rfl) (by kernel_rfl) ?hQ27 (Or.inr ⟨?hw27, rfl⟩) (by assumption) ?_
  case hi27 => (simp only [List.getElem?_toArray, List.getElem?_cons_succ, List.getElem?_cons_zero]; rfl)
  case hQ27 => exact fun _ _ _ h => h
  case hw27 => rfl
  simp only [Act.put, List.setIfInBounds_toArray, List.set_cons_zero, List.set_cons_succ]
  refine wpAnyH_take (i := 11) (oi := ?o28) (v := undef) ?hi28 (by kernel_rfl) (by kernel_rfl) (by kernel_rfl) ?hQ28 (Or.inr ⟨?hw28, rfl⟩) (by assumption) ?_
  case hi28 => (simp only [List.getElem?_toArray, List.getElem?_cons_succ, List.getElem?_cons_zero]; rfl)
  case hQ28 => exact fun _ _ _ h => h
  case hw28 => rfl
  simp only [Act.put, List.setIfInBounds_toArray, List.set_cons_zero, List.set_cons_succ]
  refine wpAnyH_take (i := 12) (oi := ?o29) (v := undef) ?hi29 (by kernel_rfl) (by kernel_rfl) (by kernel_rfl) ?hQ29 (Or.inr ⟨?hw29, rfl⟩) (by assumption) ?_
  case hi29 => (simp only [List.getElem?_toArray, List.getElem?_cons_succ, List.getElem?_cons_zero]; rfl)
  case hQ29 => exact fun _ _ _ h => h
  case hw29 => rfl
  simp only [Act.put, List.setIfInBounds_toArray, List.set_cons_zero, List.set_cons_succ]
  refine wpAnyH_take (i := 13) (oi := ?o30) (v := undef) ?hi30 (by kernel_rfl) (by kernel_rfl) (by kernel_rfl) ?hQ30 (Or.inr ⟨?hw30, rfl⟩) (by assumption) ?_
  case hi30 => (simp only [List.getElem?_toArray, List.getElem?_cons_succ, List.getElem?_cons_zero]; rfl)
  case hQ30 => exact fun _ _ _ h => h
  case hw30 => rfl
  simp only [Act.put, List.setIfInBounds_toArray, List.set_cons_zero, List.set_cons_succ]
  refine wpAnyH_take (i := 14) (oi := ?o31) (v := undef) ?hi31 (by kernel_rfl) (by kernel_rfl) (by kernel_rfl) ?hQ31 (Or.inr ⟨?hw31, rfl⟩) (by assumption) ?_
  case hi31 => (simp only [List.getElem?_toArray, List.getElem?_cons_succ, List.getElem?_cons_zero]; rfl)
  case hQ31 => exact fun _ _ _ h => h
  case hw31 => rfl
  simp only [Act.put, List.setIfInBounds_toArray, List.set_cons_zero, List.set_cons_succ]
  refine wpAnyH_take (i := 15) (oi := ?o32) (v := undef) ?hi32 (by kernel_rfl) (by kernel_rfl) (by kernel_rfl) ?hQ32 (Or.inr ⟨?hw32, rfl⟩) (by assumption) ?_
  case hi32 => (simp only [List.getElem?_toArray, List.getElem?_cons_succ, List.getElem?_cons_zero]; rfl)
  case hQ32 => exact fun _ _ _ h => h
  case hw32 => rfl
  simp only [Act.put, List.setIfInBounds_toArray, List.set_cons_zero, List.set_cons_succ]
  refine wpAnyH_take (i := 16) (oi := ?o33) (v := undef) ?hi33 (by kernel_rfl) (by kernel_rfl) (by kernel_rfl) ?hQ33 (Or.inr ⟨?hw33, rfl⟩) (by assumption) ?_
  case hi33 => (simp only [List.getElem?_toArray, List.getElem?_cons_succ, List.getElem?_cons_zero]; rfl)
  case hQ33 => exact fun _ _ _ h => h
  case hw33 => rfl
  simp only [Act.put, List.setIfInBounds_toArray, List.set_cons_zero, List.set_cons_succ]
  refine wpAnyH_take (i := 17) (oi := ?o34) (v := ?v34) ?hi34 (by kernel_rfl) (by kernel_rfl) (by kernel_rfl) ?hQ34 (Or.inl ⟨?hw34, ?hy34⟩) (by assumption) ?_
  case hi34 => (simp only [List.getElem?_toArray, List.getElem?_cons_succ, List.getElem?_cons_zero]; rfl)
  case hQ34 => exact fun _ _ _ h => h
  case hw34 => rfl
  case hy34 => (intro w hSw; (try dsimp only at hSw); go_simp; (try with_reducible rfl))
  simp only [Act.put, List.setIfInBounds_toArray, List.set_cons_zero, List.set_cons_succ]
  refine wpAnyH_done (by kernel_rfl) ?_ _
  go_wp2_with fail
  go_ret
  exact ⟨rfl, by assumption⟩
theorem pass_off (n : Int) (w : World) (h : Dev w g le gr li false t la) : Calls Tryz.prog 69 #[.pointer (some ⟨g, 0, none⟩), .int .i64 n] w fun e w' => e = .returned (.bool false) ∧ Dev w' g le gr li false t la ∧ Tch g w w' := by
  have c3 := heldD h.c3
  have H := hide h
  clear h
  go_enter Tryz.func69, Tryz.ntmps69
  go_wp2
  have S0 := Below.refl w.heap.size w
  refine wp_region_held_drew (S := (fun w' => Below w.heap.size w w')) (by kernel_rfl) ?_ (fun hHeld => ?_)
  · (first | (first | exact S0.drew | assumption))
  refine wpAnyH_take (i := 0) (oi := ?o35) (v := ?v35) ?hi35 (by kernel_rfl) (by kernel_rfl) (by kernel_rfl) ?hQ35 (Or.inl ⟨?hw35, ?hy35⟩) (by assumption) ?_
  case hi35 => (simp only [List.getElem?_toArray, List.getElem?_cons_zero]; rfl)
  case hQ35 => exact fun _ _ _ h => h
  case hw35 => rfl
  case hy35 => (intro w hSw; (try dsimp only at hSw); go_simp; (try with_reducible rfl))
  simp only [Act.put, List.setIfInBounds_toArray, List.set_cons_zero, List.set_cons_succ]
  refine wpAnyH_take (i := 1) (oi := ?o36) (v := ?v36) ?hi36 (by kernel_rfl) (by kernel_rfl) (by kernel_rfl) ?hQ36 (Or.inl ⟨?hw36, ?hy36⟩) (by assumption) ?_
  case hi36 => (simp only [List.getElem?_toArray, List.getElem?_cons_succ, List.getElem?_cons_zero]; rfl)
  case hQ36 => exact fun _ _ _ h => h
  case hw36 => rfl
  case hy36 => (intro w hSw; (try dsimp only at hSw); go_simp; (try with_reducible rfl))
  simp only [Act.put, List.setIfInBounds_toArray, List.set_cons_zero, List.set_cons_succ]
  refine wpAnyH_take (i := 2) (oi := ?o37) (v := ?v37) ?hi37 (by kernel_rfl) (by kernel_rfl) (by kernel_rfl) ?hQ37 (Or.inl ⟨?hw37, ?hy37⟩) (by assumption) ?_
  case hi37 => (simp only [List.getElem?_toArray, List.getElem?_cons_succ, List.getElem?_cons_zero]; rfl)
  case hQ37 => exact fun _ _ _ h => h
  case hw37 => rfl
  case hy37 => (intro w hSw; (try dsimp only at hSw); go_simp; (try with_reducible rfl))
  simp only [Act.put, List.setIfInBounds_toArray, List.set_cons_zero, List.set_cons_succ]
  refine wpAnyH_take (i := 3) (oi := ?o38) (v := ?v38) ?hi38 (by kernel_rfl) (by kernel_rfl) (by kernel_rfl) ?hQ38 (Or.inl ⟨?hw38, ?hy38⟩) (by assumption) ?_
  case hi38 => (simp only [List.getElem?_toArray, List.getElem?_cons_succ, List.getElem?_cons_zero]; rfl)
  case hQ38 => exact fun _ _ _ h => h
  case hw38 => rfl
  case hy38 => (intro w hSw; (try dsimp only at hSw); go_simp; (try with_reducible rfl))
  simp only [Act.put, List.setIfInBounds_toArray, List.set_cons_zero, List.set_cons_succ]
  refine wpAnyH_take (i := 4) (oi := ?o39) (v := ?v39) ?hi39 (by kernel_rfl) (by kernel_rfl) (by kernel_rfl) ?hQ39 (Or.inl ⟨?hw39, ?hy39⟩) (by assumption) ?_
  case hi39 => (simp only [List.getElem?_toArray, List.getElem?_cons_succ, List.getElem?_cons_zero]; rfl)
  case hQ39 => exact fun _ _ _ h => h
  case hw39 => rfl
  case hy39 => (intro w hSw; (try dsimp only at hSw); go_simp; (try with_reducible rfl))
  simp only [Act.put, List.setIfInBounds_toArray, List.set_cons_zero, List.set_cons_succ]
  refine wpAnyH_take (i := 5) (oi := ?o40) (v := ?v40) ?hi40 (by kernel_rfl) (by kernel_rfl) (by kernel_rfl) ?hQ40 (Or.inl ⟨?hw40, ?hy40⟩) (by assumption) ?_
  case hi40 => (simp only [List.getElem?_toArray, List.getElem?_cons_succ, List.getElem?_cons_zero]; rfl)
  case hQ40 => exact fun _ _ _ h => h
  case hw40 => rfl
  case hy40 => (intro w hSw; (try dsimp only at hSw); go_simp; (try with_reducible rfl))
  simp only [Act.put, List.setIfInBounds_toArray, List.set_cons_zero, List.set_cons_succ]
  refine wpAnyH_take (i := 6) (oi := ?o41) (v := ?v41) ?hi41 (by kernel_rfl) (by kernel_rfl) (by kernel_rfl) ?hQ41 (Or.inl ⟨?hw41, ?hy41⟩) (by assumption) ?_
  case hi41 => (simp only [List.getElem?_toArray, List.getElem?_cons_succ, List.getElem?_cons_zero]; rfl)
  case hQ41 => exact fun _ _ _ h => h
  case hw41 => rfl
  case hy41 => (intro w hSw; (try dsimp only at hSw); go_simp; (try with_reducible rfl))
  simp only [Act.put, List.setIfInBounds_toArray, List.set_cons_zero, List.set_cons_succ]
  refine wpAnyH_take (i := 7) (oi := ?o42) (v := ?v42) ?hi42 (by kernel_rfl) (by kernel_rfl) (by kernel_rfl) ?hQ42 (Or.inl ⟨?hw42, ?hy42⟩) (by assumption) ?_
  case hi42 => (simp only [List.getElem?_toArray, List.getElem?_cons_succ, List.getElem?_cons_zero]; rfl)
  case hQ42 => exact fun _ _ _ h => h
  case hw42 => rfl
  case hy42 => (intro w hSw; (try dsimp only at hSw); go_simp; (try with_reducible rfl))
  simp only [Act.put, List.setIfInBounds_toArray, List.set_cons_zero, List.set_cons_succ]
  refine wpAnyH_take (i := 8) (oi := ?o43) (v := ?v43) ?hi43 (by kernel_rfl) (by kernel_rfl) (by kernel_rfl) ?hQ43 (Or.inl ⟨?hw43, ?hy43⟩) (by assumption) ?_
  case hi43 => (simp only [List.getElem?_toArray, List.getElem?_cons_succ, List.getElem?_cons_zero]; rfl)
  case hQ43 => exact fun _ _ _ h => h
  case hw43 => rfl
  case hy43 => (intro w hSw; (try dsimp only at hSw); go_simp; (try with_reducible rfl))
  simp only [Act.put, List.setIfInBounds_toArray, List.set_cons_zero, List.set_cons_succ]
  refine wpAnyH_take (i := 9) (oi := ?o44) (v := ?v44) ?hi44 (by kernel_rfl) (by kernel_rfl) (by kernel_rfl) ?hQ44 (Or.inl ⟨?hw44, ?hy44⟩) (by assumption) ?_
  case hi44 => (simp only [List.getElem?_toArray, List.getElem?_cons_succ, List.getElem?_cons_zero]; rfl)
  case hQ44 => exact fun _ _ _ h => h
  case hw44 => rfl
  case hy44 => (intro w hSw; (try dsimp only at hSw); go_simp; (try with_reducible rfl))
  simp only [Act.put, List.setIfInBounds_toArray, List.set_cons_zero, List.set_cons_succ]
  refine wpAnyH_take (i := 10) (oi := ?o45) (v := undef) ?hi45 (by kernel_rfl) (by kernel_rfl) (by kernel_rfl) ?hQ45 (Or.inr ⟨?hw45, rfl⟩) (by assumption) ?_
  case hi45 => (simp only [List.getElem?_toArray, List.getElem?_cons_succ, List.getElem?_cons_zero]; rfl)
  case hQ45 => exact fun _ _ _ h => h
  case hw45 => rfl
  simp only [Act.put, List.setIfInBounds_toArray, List.set_cons_zero, List.set_cons_succ]
  refine wpAnyH_take (i := 11) (oi := ?o46) (v := undef) ?hi46 (by kernel_rfl) (by kernel_rfl) (by kernel_rfl) ?hQ46 (Or.inr ⟨?hw46, rfl⟩) (by assumption) ?_
  case hi46 => (simp only [List.getElem?_toArray, List.getElem?_cons_succ, List.getElem?_cons_zero]; rfl)
  case hQ46 => exact fun _ _ _ h => h
  case hw46 => rfl
  simp only [Act.put, List.setIfInBounds_toArray, List.set_cons_zero, List.set_cons_succ]
  refine wpAnyH_take (i := 12) (oi := ?o47) (v := undef) ?hi47 (by kernel_rfl) (by kernel_rfl) (by kernel_rfl) ?hQ47 (Or.inr ⟨?hw47, rfl⟩) (by assumption) ?_
  case hi47 => (simp only [List.getElem?_toArray, List.getElem?_cons_succ, List.getElem?_cons_zero]; rfl)
  case hQ47 => exact fun _ _ _ h => h
  case hw47 => rfl
  simp only [Act.put, List.setIfInBounds_toArray, List.set_cons_zero, List.set_cons_succ]
  refine wpAnyH_take (i := 13) (oi := ?o48) (v := undef) ?hi48 (by kernel_rfl) (by kernel_rfl) (by kernel_rfl) ?hQ48 (Or.inr ⟨?hw48, rfl⟩) (by assumption) ?_
  case hi48 => (simp only [List.getElem?_toArray, List.getElem?_cons_succ, List.getElem?_cons_zero]; rfl)
  case hQ48 => exact fun _ _ _ h => h
  case hw48 => rfl
  simp only [Act.put, List.setIfInBounds_toArray, List.set_cons_zero, List.set_cons_succ]
  refine wpAnyH_take (i := 14) (oi := ?o49) (v := undef) ?hi49 (by kernel_rfl) (by kernel_rfl) (by kernel_rfl) ?hQ49 (Or.inr ⟨?hw49, rfl⟩) (by assumption) ?_
  case hi49 => (simp only [List.getElem?_toArray, List.getElem?_cons_succ, List.getElem?_cons_zero]; rfl)
  case hQ49 => exact fun _ _ _ h => h
  case hw49 => rfl
  simp only [Act.put, List.setIfInBounds_toArray, List.set_cons_zero, List.set_cons_succ]
  refine wpAnyH_take (i := 15) (oi := ?o50) (v := undef) ?hi50 (by kernel_rfl) (by kernel_rfl) (by kernel_rfl) ?hQ50 (Or.inr ⟨?hw50, rfl⟩) (by assumption) ?_
  case hi50 => (simp only [List.getElem?_toArray, List.getElem?_cons_succ, List.getElem?_cons_zero]; rfl)
  case hQ50 => exact fun _ _ _ h => h
  case hw50 => rfl
  simp only [Act.put, List.setIfInBounds_toArray, List.set_cons_zero, List.set_cons_succ]
  refine wpAnyH_take (i := 16) (oi := ?o51) (v := undef) ?hi51 (by kernel_rfl) (by kernel_rfl) (by kernel_rfl) ?hQ51 (Or.inr ⟨?hw51, rfl⟩) (by assumption) ?_
  case hi51 => (simp only [List.getElem?_toArray, List.getElem?_cons_succ, List.getElem?_cons_zero]; rfl)
  case hQ51 => exact fun _ _ _ h => h
  case hw51 => rfl
  simp only [Act.put, List.setIfInBounds_toArray, List.set_cons_zero, List.set_cons_succ]
  refine wpAnyH_take (i := 17) (oi := ?o52) (v := ?v52) ?hi52 (by kernel_rfl) (by kernel_rfl) (by kernel_rfl) ?hQ52 (Or.inl ⟨?hw52, ?hy52⟩) (by assumption) ?_
  case hi52 => (simp only [List.getElem?_toArray, List.getElem?_cons_succ, List.getElem?_cons_zero]; rfl)
  case hQ52 => exact fun _ _ _ h => h
  case hw52 => rfl
  case hy52 => (intro w hSw; (try dsimp only at hSw); go_simp; (try with_reducible rfl))
  simp only [Act.put, List.setIfInBounds_toArray, List.set_cons_zero, List.set_cons_succ]
  refine wpAnyH_done (by kernel_rfl) ?_ _
  go_wp2_with fail
  go_ret
  exact ⟨rfl, (unhide H).below (by assumption), Tch.of_below (by assumption)⟩
theorem pass_yes (n : Int) (w : World) (h : Dev w g le gr li true t la) (hle : t ≤ clampZ n) : Calls Tryz.prog 69 #[.pointer (some ⟨g, 0, none⟩), .int .i64 n] w fun e w' => e = .returned (.bool true) ∧ Dev w' g le gr li false 0 true ∧ Tch g w w' := by
  have c3 := heldD h.c3
  have c4 := heldD h.c4
  have H := hide h
  have CC := fun w' => hide (kclamp_any n w')
  clear h
  obtain ⟨m, hm⟩ : ∃ m, clampZ n = m := ⟨_, rfl⟩
  rw [hm] at CC hle
  clear hm
  have hd2 : decide (m < t) = false := by simp; omega
  go_enter Tryz.func69, Tryz.ntmps69
  go_wp2
  have S0 := Below.refl w.heap.size w
  refine wp_region_held_drew (S := (fun w' => Below w.heap.size w w')) (by kernel_rfl) ?_ (fun hHeld => ?_)
  · (first | (first | exact S0.drew | assumption))
  refine wpAnyH_take (i := 0) (oi := ?o53) (v := ?v53) ?hi53 (by kernel_rfl) (by kernel_rfl) (by kernel_rfl) ?hQ53 (Or.inl ⟨?hw53, ?hy53⟩) (by assumption) ?_
  case hi53 => (simp only [List.getElem?_toArray, List.getElem?_cons_zero]; rfl)
  case hQ53 => exact fun _ _ _ h => h
  case hw53 => rfl
  case hy53 => (intro w hSw; (try dsimp only at hSw); go_simp; (try with_reducible rfl))
  simp only [Act.put, List.setIfInBounds_toArray, List.set_cons_zero, List.set_cons_succ]
  refine wpAnyH_take (i := 1) (oi := ?o54) (v := ?v54) ?hi54 (by kernel_rfl) (by kernel_rfl) (by kernel_rfl) ?hQ54 (Or.inl ⟨?hw54, ?hy54⟩) (by assumption) ?_
  case hi54 => (simp only [List.getElem?_toArray, List.getElem?_cons_succ, List.getElem?_cons_zero]; rfl)
  case hQ54 => exact fun _ _ _ h => h
  case hw54 => rfl
  case hy54 => (intro w hSw; (try dsimp only at hSw); go_simp; (try with_reducible rfl))
  simp only [Act.put, List.setIfInBounds_toArray, List.set_cons_zero, List.set_cons_succ]
  refine wpAnyH_take (i := 2) (oi := ?o55) (v := ?v55) ?hi55 (by kernel_rfl) (by kernel_rfl) (by kernel_rfl) ?hQ55 (Or.inl ⟨?hw55, ?hy55⟩) (by assumption) ?_
  case hi55 => (simp only [List.getElem?_toArray, List.getElem?_cons_succ, List.getElem?_cons_zero]; rfl)
  case hQ55 => exact fun _ _ _ h => h
  case hw55 => rfl
  case hy55 => (intro w hSw; (try dsimp only at hSw); go_simp; (try with_reducible rfl))
  simp only [Act.put, List.setIfInBounds_toArray, List.set_cons_zero, List.set_cons_succ]
  refine wpAnyH_take (i := 3) (oi := ?o56) (v := ?v56) ?hi56 (by kernel_rfl) (by kernel_rfl) (by kernel_rfl) ?hQ56 (Or.inl ⟨?hw56, ?hy56⟩) (by assumption) ?_
  case hi56 => (simp only [List.getElem?_toArray, List.getElem?_cons_succ, List.getElem?_cons_zero]; rfl)
  case hQ56 => exact fun _ _ _ h => h
  case hw56 => rfl
  case hy56 => (intro w hSw; (try dsimp only at hSw); go_simp; (try with_reducible rfl))
  simp only [Act.put, List.setIfInBounds_toArray, List.set_cons_zero, List.set_cons_succ]
  refine wpAnyH_take (i := 4) (oi := ?o57) (v := ?v57) ?hi57 (by kernel_rfl) (by kernel_rfl) (by kernel_rfl) ?hQ57 (Or.inl ⟨?hw57, ?hy57⟩) (by assumption) ?_
  case hi57 => (simp only [List.getElem?_toArray, List.getElem?_cons_succ, List.getElem?_cons_zero]; rfl)
  case hQ57 => exact fun _ _ _ h => h
  case hw57 => rfl
  case hy57 => (intro w hSw; (try dsimp only at hSw); go_simp; (try with_reducible rfl))
  simp only [Act.put, List.setIfInBounds_toArray, List.set_cons_zero, List.set_cons_succ]
  refine wpAnyH_take (i := 5) (oi := ?o58) (v := ?v58) ?hi58 (by kernel_rfl) (by kernel_rfl) (by kernel_rfl) ?hQ58 (Or.inl ⟨?hw58, ?hy58⟩) (by assumption) ?_
  case hi58 => (simp only [List.getElem?_toArray, List.getElem?_cons_succ, List.getElem?_cons_zero]; rfl)
  case hQ58 => exact fun _ _ _ h => h
  case hw58 => rfl
  case hy58 => (intro w hSw; (try dsimp only at hSw); go_simp; (try with_reducible rfl))
  simp only [Act.put, List.setIfInBounds_toArray, List.set_cons_zero, List.set_cons_succ]
  refine wpAnyH_take (i := 6) (oi := ?o59) (v := ?v59) ?hi59 (by kernel_rfl) (by kernel_rfl) (by kernel_rfl) ?hQ59 (Or.inl ⟨?hw59, ?hy59⟩) (by assumption) ?_
  case hi59 => (simp only [List.getElem?_toArray, List.getElem?_cons_succ, List.getElem?_cons_zero]; rfl)
  case hQ59 => exact fun _ _ _ h => h
  case hw59 => rfl
  case hy59 => (intro w hSw; (try dsimp only at hSw); go_simp; (try with_reducible rfl))
  simp only [Act.put, List.setIfInBounds_toArray, List.set_cons_zero, List.set_cons_succ]
  refine wpAnyH_take (i := 7) (oi := ?o60) (v := ?v60) ?hi60 (by kernel_rfl) (by kernel_rfl) (by kernel_rfl) ?hQ60 (Or.inl ⟨?hw60, ?hy60⟩) (by assumption) ?_
  case hi60 => (simp only [List.getElem?_toArray, List.getElem?_cons_succ, List.getElem?_cons_zero]; rfl)
  case hQ60 => exact fun _ _ _ h => h
  case hw60 => rfl
  case hy60 => (intro w hSw; (try dsimp only at hSw); go_simp; (try with_reducible rfl))
  simp only [Act.put, List.setIfInBounds_toArray, List.set_cons_zero, List.set_cons_succ]
  refine wpAnyH_take (i := 8) (oi := ?o61) (v := ?v61) ?hi61 (by kernel_rfl) (by kernel_rfl) (by kernel_rfl) ?hQ61 (Or.inl ⟨?hw61, ?hy61⟩) (by assumption) ?_
  case hi61 => (simp only [List.getElem?_toArray, List.getElem?_cons_succ, List.getElem?_cons_zero]; rfl)
  case hQ61 => exact fun _ _ _ h => h
  case hw61 => rfl
  case hy61 => (intro w hSw; (try dsimp only at hSw); go_simp; (try with_reducible rfl))
  simp only [Act.put, List.setIfInBounds_toArray, List.set_cons_zero, List.set_cons_succ]
  refine wpAnyH_take (i := 9) (oi := ?o62) (v := ?v62) ?hi62 (by kernel_rfl) (by kernel_rfl) (by kernel_rfl) ?hQ62 (Or.inl ⟨?hw62, ?hy62⟩) (by assumption) ?_
  case hi62 => (simp only [List.getElem?_toArray, List.getElem?_cons_succ, List.getElem?_cons_zero]; rfl)
  case hQ62 => exact fun _ _ _ h => h
  case hw62 => rfl
  case hy62 => (intro w hSw; (try dsimp only at hSw); go_simp; (try with_reducible rfl))
  simp only [Act.put, List.setIfInBounds_toArray, List.set_cons_zero, List.set_cons_succ]
  refine wpAnyH_take (i := 10) (oi := ?o63) (v := ?v63) ?hi63 (by kernel_rfl) (by kernel_rfl) (by kernel_rfl) ?hQ63 (Or.inl ⟨?hw63, ?hy63⟩) (by assumption) ?_
  case hi63 => (simp only [List.getElem?_toArray, List.getElem?_cons_succ, List.getElem?_cons_zero]; rfl)
  case hQ63 => exact fun _ _ _ h => h
  case hw63 => rfl
  case hy63 => (intro w hSw; (try dsimp only at hSw); go_simp; (try with_reducible rfl))
  simp only [Act.put, List.setIfInBounds_toArray, List.set_cons_zero, List.set_cons_succ]
  refine wpAnyH_take (i := 11) (oi := ?o64) (v := ?v64) ?hi64 (by kernel_rfl) (by kernel_rfl) (by kernel_rfl) ?hQ64 (Or.inl ⟨?hw64, ?hy64⟩) (by assumption) ?_
  case hi64 => (simp only [List.getElem?_toArray, List.getElem?_cons_succ, List.getElem?_cons_zero]; rfl)
  case hQ64 => exact fun _ _ _ h => h
  case hw64 => rfl
  case hy64 => (intro w hSw; (try dsimp only at hSw); go_simp; (try with_reducible rfl))
  simp only [Act.put, List.setIfInBounds_toArray, List.set_cons_zero, List.set_cons_succ]
  refine wpAnyH_take (i := 12) (oi := ?o65) (v := ?v65) ?hi65 (by kernel_rfl) (by kernel_rfl) (by kernel_rfl) ?hQ65 (Or.inl ⟨?hw65, ?hy65⟩) (by assumption) ?_
  case hi65 => (simp only [List.getElem?_toArray, List.getElem?_cons_succ, List.getElem?_cons_zero]; rfl)
  case hQ65 => exact fun _ _ _ h => h
  case hw65 => rfl
  case hy65 => (intro w hSw; (try dsimp only at hSw); go_simp; (try with_reducible rfl))
  simp only [Act.put, List.setIfInBounds_toArray, List.set_cons_zero, List.set_cons_succ]
  refine wpAnyH_take (i := 13) (oi := ?o66) (v := ?v66) ?hi66 (by kernel_rfl) (by kernel_rfl) (by kernel_rfl) ?hQ66 (Or.inl ⟨?hw66, ?hy66⟩) (by assumption) ?_
  case hi66 => (simp only [List.getElem?_toArray, List.getElem?_cons_succ, List.getElem?_cons_zero]; rfl)
  case hQ66 => exact fun _ _ _ h => h
  case hw66 => rfl
  case hy66 => (intro w hSw; (try dsimp only at hSw); go_simp; (try with_reducible rfl))
  simp only [Act.put, List.setIfInBounds_toArray, List.set_cons_zero, List.set_cons_succ]
  refine wpAnyH_take (i := 14) (oi := ?o67) (v := ?v67) ?hi67 (by kernel_rfl) (by kernel_rfl) (by kernel_rfl) ?hQ67 (Or.inl ⟨?hw67, ?hy67⟩) (by assumption) ?_
  case hi67 => (simp only [List.getElem?_toArray, List.getElem?_cons_succ, List.getElem?_cons_zero]; rfl)
  case hQ67 => exact fun _ _ _ h => h
  case hw67 => rfl
  case hy67 => (intro w hSw; (try dsimp only at hSw); go_simp; (try with_reducible rfl))
  simp only [Act.put, List.setIfInBounds_toArray, List.set_cons_zero, List.set_cons_succ]
  refine wpAnyH_ready (rs := [15]) (by kernel_rfl) (by simp) ?_
  refine AllReadyH.cons (o := ?o68) ?hi68 (fun K hK => ?_) AllReadyH.nil
  case hi68 => (simp only [List.getElem?_toArray, List.getElem?_cons_succ, List.getElem?_cons_zero]; rfl)
  go_simp
  go_at_call 98; refine (unhide (CC _)).mono ?_; rintro e w4 ⟨rfl, rfl⟩; go_wp2_with fail
  refine hK.out _ _ ?_ (fun hHeld => ?_)
  · (first | (first | exact S0.drew | assumption))
  clear hK K
  refine wpAnyH_take (i := 16) (oi := ?o69) (v := ?v69) ?hi69 (by kernel_rfl) (by kernel_rfl) (by kernel_rfl) ?hQ69 (Or.inl ⟨?hw69, ?hy69⟩) (by assumption) ?_
  case hi69 => (simp only [List.getElem?_toArray, List.getElem?_cons_succ, List.getElem?_cons_zero]; rfl)
  case hQ69 => exact fun _ _ _ h => h
  case hw69 => rfl
  case hy69 => (intro w hSw; (try dsimp only at hSw); go_simp; (try with_reducible rfl))
  simp only [Act.put, List.setIfInBounds_toArray, List.set_cons_zero, List.set_cons_succ]
  refine wpAnyH_take (i := 17) (oi := ?o70) (v := ?v70) ?hi70 (by kernel_rfl) (by kernel_rfl) (by kernel_rfl) ?hQ70 (Or.inl ⟨?hw70, ?hy70⟩) (by assumption) ?_
  case hi70 => (simp only [List.getElem?_toArray, List.getElem?_cons_succ, List.getElem?_cons_zero]; rfl)
  case hQ70 => exact fun _ _ _ h => h
  case hw70 => rfl
  case hy70 => (intro w hSw; (try dsimp only at hSw); go_simp; (try with_reducible rfl))
  simp only [Act.put, List.setIfInBounds_toArray, List.set_cons_zero, List.set_cons_succ]
  refine wpAnyH_done (by kernel_rfl) ?_ _
  have HB := hide hHeld
  have CS := fun w' hb => hide (stop_any w' ((unhide H).below hb))
  go_wp2_with (go_at_call 99; refine Hid.out ?_)
  refine hide ?_
  refine (unhide (CS _ (unhide HB))).mono ?_
  rintro e w5 ⟨rfl, h5, t5⟩
  have f := h5.fr
  have c5 := h5.c5
  have H5 := hide (And.intro h5 t5)
  clear h5 t5
  go_wp2_with fail
  go_ret
  exact ⟨rfl, (unhide H5).1.set5 true, ((Tch.of_below (unhide HB)).trans (unhide H5).2).set 5 _⟩
theorem pass_late (n : Int) (w : World) (h : Dev w g le gr li true t la) (hle : ¬ t ≤ clampZ n) : Calls Tryz.prog 69 #[.pointer (some ⟨g, 0, none⟩), .int .i64 n] w fun e w' => e = .returned (.bool false) ∧ Dev w' g le gr li true t la ∧ Tch g w w' := by
  have c3 := heldD h.c3
  have c4 := heldD h.c4
  have H := hide h
  have CC := fun w' => hide (kclamp_any n w')
  clear h
  obtain ⟨m, hm⟩ : ∃ m, clampZ n = m := ⟨_, rfl⟩
  rw [hm] at CC hle
  clear hm
  have hd2 : decide (m < t) = true := by simp; omega
  go_enter Tryz.func69, Tryz.ntmps69
  go_wp2
  have S0 := Below.refl w.heap.size w
  refine wp_region_held_drew (S := (fun w' => Below w.heap.size w w')) (by kernel_rfl) ?_ (fun hHeld => ?_)
  · (first | (first | exact S0.drew | assumption))
  refine wpAnyH_take (i := 0) (oi := ?o71) (v := ?v71) ?hi71 (by kernel_rfl) (by kernel_rfl) (by kernel_rfl) ?hQ71 (Or.inl ⟨?hw71, ?hy71⟩) (by assumption) ?_
  case hi71 => (simp only [List.getElem?_toArray, List.getElem?_cons_zero]; rfl)
  case hQ71 => exact fun _ _ _ h => h
  case hw71 => rfl
  case hy71 => (intro w hSw; (try dsimp only at hSw); go_simp; (try with_reducible rfl))
  simp only [Act.put, List.setIfInBounds_toArray, List.set_cons_zero, List.set_cons_succ]
  refine wpAnyH_take (i := 1) (oi := ?o72) (v := ?v72) ?hi72 (by kernel_rfl) (by kernel_rfl) (by kernel_rfl) ?hQ72 (Or.inl ⟨?hw72, ?hy72⟩) (by assumption) ?_
  case hi72 => (simp only [List.getElem?_toArray, List.getElem?_cons_succ, List.getElem?_cons_zero]; rfl)
  case hQ72 => exact fun _ _ _ h => h
  case hw72 => rfl
  case hy72 => (intro w hSw; (try dsimp only at hSw); go_simp; (try with_reducible rfl))
  simp only [Act.put, List.setIfInBounds_toArray, List.set_cons_zero, List.set_cons_succ]
  refine wpAnyH_take (i := 2) (oi := ?o73) (v := ?v73) ?hi73 (by kernel_rfl) (by kernel_rfl) (by kernel_rfl) ?hQ73 (Or.inl ⟨?hw73, ?hy73⟩) (by assumption) ?_
  case hi73 => (simp only [List.getElem?_toArray, List.getElem?_cons_succ, List.getElem?_cons_zero]; rfl)
  case hQ73 => exact fun _ _ _ h => h
  case hw73 => rfl
  case hy73 => (intro w hSw; (try dsimp only at hSw); go_simp; (try with_reducible rfl))
  simp only [Act.put, List.setIfInBounds_toArray, List.set_cons_zero, List.set_cons_succ]
  refine wpAnyH_take (i := 3) (oi := ?o74) (v := ?v74) ?hi74 (by kernel_rfl) (by kernel_rfl) (by kernel_rfl) ?hQ74 (Or.inl ⟨?hw74, ?hy74⟩) (by assumption) ?_
  case hi74 => (simp only [List.getElem?_toArray, List.getElem?_cons_succ, List.getElem?_cons_zero]; rfl)
  case hQ74 => exact fun _ _ _ h => h
  case hw74 => rfl
  case hy74 => (intro w hSw; (try dsimp only at hSw); go_simp; (try with_reducible rfl))
  simp only [Act.put, List.setIfInBounds_toArray, List.set_cons_zero, List.set_cons_succ]
  refine wpAnyH_take (i := 4) (oi := ?o75) (v := ?v75) ?hi75 (by kernel_rfl) (by kernel_rfl) (by kernel_rfl) ?hQ75 (Or.inl ⟨?hw75, ?hy75⟩) (by assumption) ?_
  case hi75 => (simp only [List.getElem?_toArray, List.getElem?_cons_succ, List.getElem?_cons_zero]; rfl)
  case hQ75 => exact fun _ _ _ h => h
  case hw75 => rfl
  case hy75 => (intro w hSw; (try dsimp only at hSw); go_simp; (try with_reducible rfl))
  simp only [Act.put, List.setIfInBounds_toArray, List.set_cons_zero, List.set_cons_succ]
  refine wpAnyH_take (i := 5) (oi := ?o76) (v := ?v76) ?hi76 (by kernel_rfl) (by kernel_rfl) (by kernel_rfl) ?hQ76 (Or.inl ⟨?hw76, ?hy76⟩) (by assumption) ?_
  case hi76 => (simp only [List.getElem?_toArray, List.getElem?_cons_succ, List.getElem?_cons_zero]; rfl)
  case hQ76 => exact fun _ _ _ h => h
  case hw76 => rfl
  case hy76 => (intro w hSw; (try dsimp only at hSw); go_simp; (try with_reducible rfl))
  simp only [Act.put, List.setIfInBounds_toArray, List.set_cons_zero, List.set_cons_succ]
  refine wpAnyH_take (i := 6) (oi := ?o77) (v := ?v77) ?hi77 (by kernel_rfl) (by kernel_rfl) (by kernel_rfl) ?hQ77 (Or.inl ⟨?hw77, ?hy77⟩) (by assumption) ?_
  case hi77 => (simp only [List.getElem?_toArray, List.getElem?_cons_succ, List.getElem?_cons_zero]; rfl)
  case hQ77 => exact fun _ _ _ h => h
  case hw77 => rfl
  case hy77 => (intro w hSw; (try dsimp only at hSw); go_simp; (try with_reducible rfl))
  simp only [Act.put, List.setIfInBounds_toArray, List.set_cons_zero, List.set_cons_succ]
  refine wpAnyH_take (i := 7) (oi := ?o78) (v := ?v78) ?hi78 (by kernel_rfl) (by kernel_rfl) (by kernel_rfl) ?hQ78 (Or.inl ⟨?hw78, ?hy78⟩) (by assumption) ?_
  case hi78 => (simp only [List.getElem?_toArray, List.getElem?_cons_succ, List.getElem?_cons_zero]; rfl)
  case hQ78 => exact fun _ _ _ h => h
  case hw78 => rfl
  case hy78 => (intro w hSw; (try dsimp only at hSw); go_simp; (try with_reducible rfl))
  simp only [Act.put, List.setIfInBounds_toArray, List.set_cons_zero, List.set_cons_succ]
  refine wpAnyH_take (i := 8) (oi := ?o79) (v := ?v79) ?hi79 (by kernel_rfl) (by kernel_rfl) (by kernel_rfl) ?hQ79 (Or.inl ⟨?hw79, ?hy79⟩) (by assumption) ?_
  case hi79 => (simp only [List.getElem?_toArray, List.getElem?_cons_succ, List.getElem?_cons_zero]; rfl)
  case hQ79 => exact fun _ _ _ h => h
  case hw79 => rfl
  case hy79 => (intro w hSw; (try dsimp only at hSw); go_simp; (try with_reducible rfl))
  simp only [Act.put, List.setIfInBounds_toArray, List.set_cons_zero, List.set_cons_succ]
  refine wpAnyH_take (i := 9) (oi := ?o80) (v := ?v80) ?hi80 (by kernel_rfl) (by kernel_rfl) (by kernel_rfl) ?hQ80 (Or.inl ⟨?hw80, ?hy80⟩) (by assumption) ?_
  case hi80 => (simp only [List.getElem?_toArray, List.getElem?_cons_succ, List.getElem?_cons_zero]; rfl)
  case hQ80 => exact fun _ _ _ h => h
  case hw80 => rfl
  case hy80 => (intro w hSw; (try dsimp only at hSw); go_simp; (try with_reducible rfl))
  simp only [Act.put, List.setIfInBounds_toArray, List.set_cons_zero, List.set_cons_succ]
  refine wpAnyH_take (i := 10) (oi := ?o81) (v := ?v81) ?hi81 (by kernel_rfl) (by kernel_rfl) (by kernel_rfl) ?hQ81 (Or.inl ⟨?hw81, ?hy81⟩) (by assumption) ?_
  case hi81 => (simp only [List.getElem?_toArray, List.getElem?_cons_succ, List.getElem?_cons_zero]; rfl)
  case hQ81 => exact fun _ _ _ h => h
  case hw81 => rfl
  case hy81 => (intro w hSw; (try dsimp only at hSw); go_simp; (try with_reducible rfl))
  simp only [Act.put, List.setIfInBounds_toArray, List.set_cons_zero, List.set_cons_succ]
  refine wpAnyH_take (i := 11) (oi := ?o82) (v := ?v82) ?hi82 (by kernel_rfl) (by kernel_rfl) (by kernel_rfl) ?hQ82 (Or.inl ⟨?hw82, ?hy82⟩) (by assumption) ?_
  case hi82 => (simp only [List.getElem?_toArray, List.getElem?_cons_succ, List.getElem?_cons_zero]; rfl)
  case hQ82 => exact fun _ _ _ h => h
  case hw82 => rfl
  case hy82 => (intro w hSw; (try dsimp only at hSw); go_simp; (try with_reducible rfl))
  simp only [Act.put, List.setIfInBounds_toArray, List.set_cons_zero, List.set_cons_succ]
  refine wpAnyH_take (i := 12) (oi := ?o83) (v := ?v83) ?hi83 (by kernel_rfl) (by kernel_rfl) (by kernel_rfl) ?hQ83 (Or.inl ⟨?hw83, ?hy83⟩) (by assumption) ?_
  case hi83 => (simp only [List.getElem?_toArray, List.getElem?_cons_succ, List.getElem?_cons_zero]; rfl)
  case hQ83 => exact fun _ _ _ h => h
  case hw83 => rfl
  case hy83 => (intro w hSw; (try dsimp only at hSw); go_simp; (try with_reducible rfl))
  simp only [Act.put, List.setIfInBounds_toArray, List.set_cons_zero, List.set_cons_succ]
  refine wpAnyH_take (i := 13) (oi := ?o84) (v := ?v84) ?hi84 (by kernel_rfl) (by kernel_rfl) (by kernel_rfl) ?hQ84 (Or.inl ⟨?hw84, ?hy84⟩) (by assumption) ?_
  case hi84 => (simp only [List.getElem?_toArray, List.getElem?_cons_succ, List.getElem?_cons_zero]; rfl)
  case hQ84 => exact fun _ _ _ h => h
  case hw84 => rfl
  case hy84 => (intro w hSw; (try dsimp only at hSw); go_simp; (try with_reducible rfl))
  simp only [Act.put, List.setIfInBounds_toArray, List.set_cons_zero, List.set_cons_succ]
  refine wpAnyH_take (i := 14) (oi := ?o85) (v := ?v85) ?hi85 (by kernel_rfl) (by kernel_rfl) (by kernel_rfl) ?hQ85 (Or.inl ⟨?hw85, ?hy85⟩) (by assumption) ?_
  case hi85 => (simp only [List.getElem?_toArray, List.getElem?_cons_succ, List.getElem?_cons_zero]; rfl)
  case hQ85 => exact fun _ _ _ h => h
  case hw85 => rfl
  case hy85 => (intro w hSw; (try dsimp only at hSw); go_simp; (try with_reducible rfl))
  simp only [Act.put, List.setIfInBounds_toArray, List.set_cons_zero, List.set_cons_succ]
  refine wpAnyH_ready (rs := [15]) (by kernel_rfl) (by simp) ?_
  refine AllReadyH.cons (o := ?o86) ?hi86 (fun K hK => ?_) AllReadyH.nil
  case hi86 => (simp only [List.getElem?_toArray, List.getElem?_cons_succ, List.getElem?_cons_zero]; rfl)
  go_simp
  go_at_call 98; refine (unhide (CC _)).mono ?_; rintro e w4 ⟨rfl, rfl⟩; go_wp2_with fail
  refine hK.out _ _ ?_ (fun hHeld => ?_)
  · (first | (first | exact S0.drew | assumption))
  clear hK K
  refine wpAnyH_take (i := 16) (oi := ?o87) (v := ?v87) ?hi87 (by kernel_rfl) (by kernel_rfl) (by kernel_rfl) ?hQ87 (Or.inl ⟨?hw87, ?hy87⟩) (by assumption) ?_
  case hi87 => (simp only [List.getElem?_toArray, List.getElem?_cons_succ, List.getElem?_cons_zero]; rfl)
  case hQ87 => exact fun _ _ _ h => h
  case hw87 => rfl
  case hy87 => (intro w hSw; (try dsimp only at hSw); go_simp; (try with_reducible rfl))
  simp only [Act.put, List.setIfInBounds_toArray, List.set_cons_zero, List.set_cons_succ]
  refine wpAnyH_take (i := 17) (oi := ?o88) (v := ?v88) ?hi88 (by kernel_rfl) (by kernel_rfl) (by kernel_rfl) ?hQ88 (Or.inl ⟨?hw88, ?hy88⟩) (by assumption) ?_
  case hi88 => (simp only [List.getElem?_toArray, List.getElem?_cons_succ, List.getElem?_cons_zero]; rfl)
  case hQ88 => exact fun _ _ _ h => h
  case hw88 => rfl
  case hy88 => (intro w hSw; (try dsimp only at hSw); go_simp; (try with_reducible rfl))
  simp only [Act.put, List.setIfInBounds_toArray, List.set_cons_zero, List.set_cons_succ]
  refine wpAnyH_done (by kernel_rfl) ?_ _
  go_wp2_with fail
  go_ret
  exact ⟨rfl, (unhide H).below (by assumption), Tch.of_below (by assumption)⟩
end
end Go.Proofs.YtjjdkkdnlnbedaaGreat


namespace Go.Proofs.YtjjdkkdnlnbedaaGreat
open Go.RowKit Kt

section
variable {g : Nat} {le gr t : Int} {li ar la : Bool}
theorem program_nil (n s : Int) (w : World) : Calls Tryz.prog 117 #[.pointer none, .int .i64 n, .int .i64 s] w fun e w' => e = .returned (.tuple #[.int .i64 0, .bool false]) ∧ w' = w := by
  go_enter Tryz.func117, Tryz.ntmps117
  go_wp2_with (go_at_call 115; refine (live_nil _).mono ?_; rintro e w1 ⟨rfl, rfl⟩)
  go_ret2
  exact ⟨rfl, rfl⟩
theorem program_off (n s : Int) (w : World) (h : Dev w g le gr false ar t la) : Calls Tryz.prog 117 #[.pointer (some ⟨g, 0, none⟩), .int .i64 n, .int .i64 s] w fun e w' => e = .returned (.tuple #[.int .i64 0, .bool false]) ∧ w' = w := by
  have C := hide (live_any w h)
  clear h
  go_enter Tryz.func117, Tryz.ntmps117
  go_wp2_with (go_at_call 115; refine (unhide C).mono ?_; rintro e w1 ⟨rfl, rfl⟩)
  go_ret2
  exact ⟨rfl, rfl⟩
theorem program_on (n s : Int) (w : World) (h : Dev w g le gr true ar t la) : Calls Tryz.prog 117 #[.pointer (some ⟨g, 0, none⟩), .int .i64 n, .int .i64 s] w fun e w' => e = .returned (.tuple #[.int .i64 (aimZ le gr n s), .bool (!neverB s)]) ∧ Dev w' g le gr true (!neverB s) (aimZ le gr n s) la ∧ Tch g w w' := by
  have C := hide (live_any w h)
  have CA := hide (aim_any w h n s)
  have H := hide h
  clear h
  obtain ⟨z, hz⟩ : ∃ z, aimZ le gr n s = z := ⟨_, rfl⟩
  obtain ⟨b, hb⟩ : ∃ b, (!neverB s) = b := ⟨_, rfl⟩
  rw [hz, hb] at CA ⊢
  clear hz hb
  go_enter Tryz.func117, Tryz.ntmps117
  go_wp2_with (first | (go_at_call 115; refine (unhide C).mono ?_; rintro e w1 ⟨rfl, rfl⟩) | (go_at_call 116; refine Hid.out ?_))
  refine hide ?_
  refine (unhide CA).mono ?_
  rintro e w2 ⟨rfl, hb2⟩
  have h2 := (unhide H).below hb2
  have f := h2.fr
  have c3 := h2.c3
  have c4 := h2.c4
  have H2 := hide (And.intro h2 hb2)
  clear h2 hb2
  go_wp2_with fail
  have h3 := ((unhide H2).1.set4 z).set3 b
  have t3 := ((Tch.of_below (g := g) (unhide H2).2).set 4 (.int .i64 z)).set 3 (.bool b)
  obtain ⟨w3, hw3⟩ : ∃ w3, w3 = (w2.setCell ⟨g, 4, none⟩ (.int .i64 z)).setCell ⟨g, 3, none⟩ (.bool b) := ⟨_, rfl⟩
  rw [← hw3] at h3 t3 ⊢
  have c5 := h3.c3
  have c6 := h3.c4
  have H3 := hide (And.intro h3 t3)
  clear h3 t3 hw3 c3 c4 f
  go_quiet (fail)
  go_wp2_with fail
  go_ret2
  exact ⟨rfl, (unhide H3).1.below (belowD _ _), (unhide H3).2.drew _⟩
theorem sooner_off (n s : Int) (w : World) (h : Dev w g le gr false ar t la) : Calls Tryz.prog 94 #[.pointer (some ⟨g, 0, none⟩), .int .i64 n, .int .i64 s] w fun e w' => e = .returned (.bool false) ∧ w' = w := by
  have C := hide (live_any w h)
  clear h
  go_enter Tryz.func94, Tryz.ntmps94
  go_wp2_with (go_at_call 115; refine (unhide C).mono ?_; rintro e w1 ⟨rfl, rfl⟩)
  go_ret
  exact ⟨rfl, rfl⟩
theorem sooner_no (n s : Int) (w : World) (h : Dev w g le gr true true t la) (hn : neverB s = true ∨ t ≤ aimZ le gr n s) : Calls Tryz.prog 94 #[.pointer (some ⟨g, 0, none⟩), .int .i64 n, .int .i64 s] w fun e w' => e = .returned (.bool false) ∧ Dev w' g le gr true true t la ∧ Tch g w w' := by
  have C := hide (live_any w h)
  have CA := hide (aim_any w h n s)
  have H := hide h
  clear h
  obtain ⟨z, hz⟩ : ∃ z, aimZ le gr n s = z := ⟨_, rfl⟩
  obtain ⟨b, hb⟩ : ∃ b, neverB s = b := ⟨_, rfl⟩
  rw [hz, hb] at CA hn
  clear hz hb
  rcases hn with rfl | hle
  · go_enter Tryz.func94, Tryz.ntmps94
    go_wp2_with (first | (go_at_call 115; refine (unhide C).mono ?_; rintro e w1 ⟨rfl, rfl⟩) | (go_at_call 116; refine Hid.out ?_))
    refine hide ?_
    refine (unhide CA).mono ?_
    rintro e w2 ⟨rfl, hb2⟩
    have h2 := (unhide H).below hb2
    have c3 := h2.c3
    have c4 := h2.c4
    have H2 := hide (And.intro h2 hb2)
    clear h2 hb2
    go_wp2_with fail
    go_ret
    exact ⟨rfl, (unhide H2).1, Tch.of_below (unhide H2).2⟩
  · cases b
    all_goals
      go_enter Tryz.func94, Tryz.ntmps94
      go_wp2_with (first | (go_at_call 115; refine (unhide C).mono ?_; rintro e w1 ⟨rfl, rfl⟩) | (go_at_call 116; refine Hid.out ?_))
      refine hide ?_
      refine (unhide CA).mono ?_
      rintro e w2 ⟨rfl, hb2⟩
      have h2 := (unhide H).below hb2
      have c3 := h2.c3
      have c4 := h2.c4
      have H2 := hide (And.intro h2 hb2)
      clear h2 hb2
      go_wp2_with fail
      go_ret
      exact ⟨rfl, (unhide H2).1, Tch.of_below (unhide H2).2⟩
theorem sooner_yes (n s : Int) (w : World) (h : Dev w g le gr true ar t la) (hn : ar = false ∨ (neverB s = false ∧ ¬ t ≤ aimZ le gr n s)) : Calls Tryz.prog 94 #[.pointer (some ⟨g, 0, none⟩), .int .i64 n, .int .i64 s] w fun e w' => e = .returned (.bool (!neverB s)) ∧ Dev w' g le gr true (!neverB s) (aimZ le gr n s) la ∧ Tch g w w' := by
  have C := hide (live_any w h)
  have CA := hide (aim_any w h n s)
  have CP := hide (fun w' (hb : Below w.heap.size w w') => program_on n s w' (h.below hb))
  have H := hide h
  clear h
  obtain ⟨z, hz⟩ : ∃ z, aimZ le gr n s = z := ⟨_, rfl⟩
  obtain ⟨b, hb⟩ : ∃ b, neverB s = b := ⟨_, rfl⟩
  rw [hz, hb] at CA CP hn ⊢
  clear hz hb
  rcases hn with rfl | ⟨rfl, hle⟩
  · go_enter Tryz.func94, Tryz.ntmps94
    go_wp2_with (first | (go_at_call 115; refine (unhide C).mono ?_; rintro e w1 ⟨rfl, rfl⟩) | (go_at_call 116; refine Hid.out ?_))
    refine hide ?_
    refine (unhide CA).mono ?_
    rintro e w2 ⟨rfl, hb2⟩
    have h2 := (unhide H).below hb2
    have c3 := h2.c3
    have c4 := h2.c4
    have CP2 := hide (unhide CP w2 hb2)
    have H2 := hide hb2
    clear h2 hb2 CP
    go_wp2_with (go_at_call 117; refine Hid.out ?_)
    refine hide ?_
    refine (unhide CP2).mono ?_
    rintro e w3 ⟨rfl, h3, t3⟩
    have H3 := hide (And.intro h3 t3)
    clear h3 t3
    go_wp2_with fail
    go_ret
    exact ⟨rfl, (unhide H3).1, (Tch.of_below (unhide H2)).trans (unhide H3).2⟩
  · cases ar
    all_goals
      go_enter Tryz.func94, Tryz.ntmps94
      go_wp2_with (first | (go_at_call 115; refine (unhide C).mono ?_; rintro e w1 ⟨rfl, rfl⟩) | (go_at_call 116; refine Hid.out ?_))
      refine hide ?_
      refine (unhide CA).mono ?_
      rintro e w2 ⟨rfl, hb2⟩
      have h2 := (unhide H).below hb2
      have c3 := h2.c3
      have c4 := h2.c4
      have CP2 := hide (unhide CP w2 hb2)
      have H2 := hide hb2
      clear h2 hb2 CP
      go_wp2_with (go_at_call 117; refine Hid.out ?_)
      refine hide ?_
      refine (unhide CP2).mono ?_
      rintro e w3 ⟨rfl, h3, t3⟩
      have H3 := hide (And.intro h3 t3)
      clear h3 t3
      go_wp2_with fail
      go_ret
      exact ⟨rfl, (unhide H3).1, (Tch.of_below (unhide H2)).trans (unhide H3).2⟩
end
end Go.Proofs.YtjjdkkdnlnbedaaGreat

