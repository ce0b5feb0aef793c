import Derived.Test.YtjjdkkdnlnbedaaGreatQueA
import Derived.Test.YtjjdkkdnlnbedaaGreatDeA
import Derived.RegionTactic
import Derived.Deep.QuietTactic
import Derived.BigQuiet
import Derived.Deep.RegionHeld3
namespace Go.Proofs.YtjjdkkdnlnbedaaGreat
open Go.RowKit Kt

/-- The cells of a clock: its counter, Mono, the offsets of Real and Boot, whether it is suspended, how often an offset changed. -/
def ck (c m r b : Int) (s : Bool) (n : Int) : Array Value := #[.int .i64 c, .int .i64 m, .int .i64 0, .int .i64 r, .int .i64 b, .bool s, .int .i64 n]
/-- A clock. -/
def Clk (w : World) (g : Nat) (c m r b : Int) (s : Bool) (n : Int) : Prop := Blk w g 100 (ck c m r b s n)
theorem heldK {W : World} {a : Addr} {v : Value} (h : W.cell? a = some v) : ∀ w', Below W.heap.size W w' → w'.cell? a = some v := fun w' hb => by
  rw [hb.cell (World.block_lt_of_cell? W a h)]; exact h
section
variable {g : Nat} {c m r b n : Int} {s : Bool}
theorem Clk.c0 {w : World} (h : Clk w g c m r b s n) : w.cell? ⟨g, 0, none⟩ = some (.int .i64 c) := h.cell 0
theorem Clk.c1 {w : World} (h : Clk w g c m r b s n) : w.cell? ⟨g, 1, none⟩ = some (.int .i64 m) := h.cell 1
theorem Clk.c2 {w : World} (h : Clk w g c m r b s n) : w.cell? ⟨g, 2, none⟩ = some (.int .i64 0) := h.cell 2
theorem Clk.c3 {w : World} (h : Clk w g c m r b s n) : w.cell? ⟨g, 3, none⟩ = some (.int .i64 r) := h.cell 3
theorem Clk.c4 {w : World} (h : Clk w g c m r b s n) : w.cell? ⟨g, 4, none⟩ = some (.int .i64 b) := h.cell 4
theorem Clk.c5 {w : World} (h : Clk w g c m r b s n) : w.cell? ⟨g, 5, none⟩ = some (.bool s) := h.cell 5
theorem Clk.c6 {w : World} (h : Clk w g c m r b s n) : w.cell? ⟨g, 6, none⟩ = some (.int .i64 n) := h.cell 6
theorem Clk.fr {w : World} (h : Clk w g c m r b s n) : ∀ j, w.frozen? ⟨g, j, none⟩ = false := Blk.free h
theorem Clk.below {w w' : World} (h : Clk w g c m r b s n) (hb : Below w.heap.size w w') : Clk w' g c m r b s n := Blk.below h hb (Blk.lt h)
theorem Clk.set0 {w : World} (h : Clk w g c m r b s n) (x : Int) : Clk (w.setCell ⟨g, 0, none⟩ (.int .i64 x)) g x m r b s n := Blk.put h 0 (.int .i64 x)
theorem Clk.set1 {w : World} (h : Clk w g c m r b s n) (x : Int) : Clk (w.setCell ⟨g, 1, none⟩ (.int .i64 x)) g c x r b s n := Blk.put h 1 (.int .i64 x)
theorem Clk.set2 {w : World} (h : Clk w g c m r b s n) : Clk (w.setCell ⟨g, 2, none⟩ (.int .i64 0)) g c m r b s n := Blk.put h 2 (.int .i64 0)
theorem Clk.set3 {w : World} (h : Clk w g c m r b s n) (x : Int) : Clk (w.setCell ⟨g, 3, none⟩ (.int .i64 x)) g c m x b s n := Blk.put h 3 (.int .i64 x)
theorem Clk.set4 {w : World} (h : Clk w g c m r b s n) (x : Int) : Clk (w.setCell ⟨g, 4, none⟩ (.int .i64 x)) g c m r x s n := Blk.put h 4 (.int .i64 x)
theorem Clk.set5 {w : World} (h : Clk w g c m r b s n) (x : Bool) : Clk (w.setCell ⟨g, 5, none⟩ (.bool x)) g c m r b x n := Blk.put h 5 (.bool x)
theorem Clk.set6 {w : World} (h : Clk w g c m r b s n) (x : Int) : Clk (w.setCell ⟨g, 6, none⟩ (.int .i64 x)) g c m r b s x := Blk.put h 6 (.int .i64 x)

theorem cnew_any (w : World) : Calls Tryz.prog 24 #[] w fun e w' => e = .returned (.pointer (some ⟨w.heap.size, 0, none⟩)) ∧ Clk w' w.heap.size 0 0 0 0 false 0 ∧ Below w.heap.size w w' := by
  go_enter Tryz.func24, Tryz.ntmps24
  go_wp2
  go_ret
  exact ⟨rfl, Blk.new _ _ _, (Below.refl _ _).alloc (Nat.le_refl _) _⟩
theorem cgen_any (w : World) (h : Clk w g c m r b s n) : Calls Tryz.prog 74 #[.pointer (some ⟨g, 0, none⟩)] w fun e w' => e = .returned (.int .i64 n) ∧ w' = w := by
  have c6 := h.c6
  clear h
  go_enter Tryz.func74, Tryz.ntmps74
  go_wp2
  go_ret
  exact ⟨rfl, rfl⟩
/-- The offset of a clock. -/
def offK (k r b : Int) : Int := if k = 1 then r else if k = 2 then b else 0
theorem offset_in (w : World) (h : Clk w g c m r b s n) (k : Int) (h0 : 0 ≤ k) (h2 : k ≤ 2) : Calls Tryz.prog 86 #[.pointer (some ⟨g, 0, none⟩), .int .i64 k] w fun e w' => e = .returned (.tuple #[.int .i64 (offK k r b), .bool true]) ∧ w' = w := by
  have c2 := h.c2
  have c3 := h.c3
  have c4 := h.c4
  clear h
  rcases (show k = 0 ∨ k = 1 ∨ k = 2 by omega) with rfl | rfl | rfl
  all_goals
    go_enter Tryz.func86, Tryz.ntmps86
    go_wp2
    go_ret2
    exact ⟨rfl, rfl⟩
theorem offset_out (w : World) (g : Nat) (k : Int) (hk : k < 0 ∨ 2 < k) : Calls Tryz.prog 86 #[.pointer (some ⟨g, 0, none⟩), .int .i64 k] w fun e w' => e = .returned (.tuple #[.int .i64 0, .bool false]) ∧ w' = w := by
  by_cases h : k < 0
  · clear hk
    go_enter Tryz.func86, Tryz.ntmps86
    go_wp2
    go_ret2
    exact ⟨rfl, rfl⟩
  · have h2 : 3 ≤ k := by omega
    clear hk
    go_enter Tryz.func86, Tryz.ntmps86
    go_wp2
    go_ret2
    exact ⟨rfl, rfl⟩
theorem cnow_in (w : World) (h : Clk w g c m r b s n) (k : Int) (h0 : 0 ≤ k) (h2 : k ≤ 2) (o : Int) (ho : offK k r b = o) (b0 : -9223372036854775808 ≤ m + o) (b1 : m + o ≤ 9223372036854775807) : Calls Tryz.prog 54 #[.pointer (some ⟨g, 0, none⟩), .int .i64 k] w fun e w' => e = .returned (.tuple #[.int .i64 (m + o), .bool true]) ∧ w' = w := by
  have c1 := h.c1
  have C := hide (offset_in w h k h0 h2)
  rw [ho] at C
  clear h ho
  go_enter Tryz.func54, Tryz.ntmps54
  go_wp2_with (go_at_call 86; refine (unhide C).mono ?_; rintro e w1 ⟨rfl, rfl⟩)
  go_ret2
  exact ⟨rfl, rfl⟩
theorem cnow_out (w : World) (g : Nat) (k : Int) (hk : k < 0 ∨ 2 < k) : Calls Tryz.prog 54 #[.pointer (some ⟨g, 0, none⟩), .int .i64 k] w fun e w' => e = .returned (.tuple #[.int .i64 0, .bool false]) ∧ w' = w := by
  have C := hide (offset_out w g k hk)
  clear hk
  go_enter Tryz.func54, Tryz.ntmps54
  go_wp2_with (go_at_call 86; refine (unhide C).mono ?_; rintro e w1 ⟨rfl, rfl⟩)
  go_ret2
  exact ⟨rfl, rfl⟩
theorem adv_nil (w : World) (k : Int) : Calls Tryz.prog 68 #[.pointer none, .int .i64 k] w fun e w' => e = .returned (.int .i64 1) ∧ w' = w := by
  go_enter Tryz.func68, Tryz.ntmps68
  go_wp2
  go_ret
  exact ⟨rfl, rfl⟩
theorem adv_bad (w : World) (h : Clk w g c m r b s n) (k : Int) (h0 : 0 ≤ c) (h1 : c ≤ 1152921504606846976) (hk : k < 0 ∨ 1152921504606846976 - c < k) : Calls Tryz.prog 68 #[.pointer (some ⟨g, 0, none⟩), .int .i64 k] w fun e w' => e = .returned (.int .i64 2) ∧ w' = w := by
  have c0 := h.c0
  clear h
  by_cases h2 : k < 0
  · clear hk
    go_enter Tryz.func68, Tryz.ntmps68
    go_wp2
    go_ret
    exact ⟨rfl, rfl⟩
  · have h3 : 1152921504606846976 - c < k := by omega
    clear hk
    go_enter Tryz.func68, Tryz.ntmps68
    go_wp2
    go_ret
    exact ⟨rfl, rfl⟩
theorem adv_ok (w : World) (h : Clk w g c m r b s n) (k : Int) (h0 : 0 ≤ c) (h1 : c ≤ 1152921504606846976) (m0 : 0 ≤ m) (m1 : m ≤ 1152921504606846976) (hk : 0 ≤ k) (hk2 : k ≤ 1152921504606846976 - c) : Calls Tryz.prog 68 #[.pointer (some ⟨g, 0, none⟩), .int .i64 k] w fun e w' => e = .returned (.int .i64 0) ∧ Clk w' g (c + k) (if s = true then m else m + k) r b s n ∧ Tch g w w' := by
  have c0 := h.c0
  have c1 := h.c1
  have c5 := h.c5
  have f := h.fr
  have H := hide h
  clear h
  cases s
  · go_enter Tryz.func68, Tryz.ntmps68
    go_wp2
    go_ret
    exact ⟨rfl, ((unhide H).set0 (c + k)).set1 (m + k), ((Tch.refl g w).set 0 _).set 1 _⟩
  · go_enter Tryz.func68, Tryz.ntmps68
    go_wp2
    go_ret
    exact ⟨rfl, (unhide H).set0 (c + k), (Tch.refl g w).set 0 _⟩
theorem susp_ok (w : World) (h : Clk w g c m r b false n) : Calls Tryz.prog 39 #[.pointer (some ⟨g, 0, none⟩)] w fun e w' => e = .returned (.int .i64 0) ∧ Clk w' g c m r b true n ∧ Tch g w w' := by
  have c5 := h.c5
  have f := h.fr
  have H := hide h
  clear h
  go_enter Tryz.func39, Tryz.ntmps39
  go_wp2
  go_ret
  exact ⟨rfl, (unhide H).set5 true, (Tch.refl g w).set 5 _⟩
theorem susp_bad (w : World) (h : Clk w g c m r b true n) : Calls Tryz.prog 39 #[.pointer (some ⟨g, 0, none⟩)] w fun e w' => e = .returned (.int .i64 8) ∧ w' = w := by
  have c5 := h.c5
  clear h
  go_enter Tryz.func39, Tryz.ntmps39
  go_wp2
  go_ret
  exact ⟨rfl, rfl⟩
end
end Go.Proofs.YtjjdkkdnlnbedaaGreat


namespace Go.Proofs.YtjjdkkdnlnbedaaGreat
open Go.RowKit Kt

theorem eq3 (a b c d e f : Int) (w : World) : (Op.equalIn 10000 75 (.agg #[.int .i64 a, .int .i64 b, .int .i64 c]) (.agg #[.int .i64 d, .int .i64 e, .int .i64 f])).run Tryz.prog w = .ok (a == d && (b == e && c == f)) w := by
  have u3 := Tryz.underlying3
  have a3 := Tryz.isAgg3
  have z3 := Tryz.sizeOf3
  rw [show (10000 : Nat) = 9999 + 1 from rfl, Op.equalIn]
  simp only [Sem.run_bind, run_underlying Tryz.underlying75, Result.andThen_ok]
  simp only [Std.Legacy.Range.forIn_eq_forIn_range', Std.Legacy.Range.size, Nat.sub_zero, Nat.add_sub_cancel, Nat.div_one, List.range'_succ, List.range'_zero, List.forIn_cons, List.forIn_nil]
  go_simp
  by_cases h1 : a = d <;> by_cases h2 : b = e <;> by_cases h3 : c = f <;> simp [h1, h2, h3]
section
variable {g : Nat} {c m r b n : Int} {s : Bool}
theorem below_alloc1 (w : World) (o : Obj) : Below w.heap.size w (w.alloc o) := (Below.refl _ _).alloc (Nat.le_refl _) _
theorem grow_same (w : World) (h : Clk w g c m r b s n) (r1 : -4611686018427387904 ≤ r) (r2 : r ≤ 4611686018427387904) (b1 : -4611686018427387904 ≤ b) (b2 : b ≤ 4611686018427387904) : Calls Tryz.prog 75 #[.pointer (some ⟨g, 0, none⟩), .int .i64 0, .int .i64 0] w fun e w' => e = .returned (.tuple #[]) ∧ Clk w' g c m r b s n ∧ Tch g w w' := by
  have c2 := h.c2
  have c3 := h.c3
  have c4 := h.c4
  obtain ⟨B, hB⟩ : ∃ B, w.heap.size = B := ⟨_, rfl⟩
  obtain ⟨W0, hW0⟩ : ∃ W0, W0 = w.alloc (.cells #[.int .i64 0, .int .i64 r, .int .i64 b] 75) := ⟨_, rfl⟩
  have kb : Blk W0 B 75 #[.int .i64 0, .int .i64 r, .int .i64 b] := by rw [hW0]; exact Blk.new_at _ _ _ hB.symm
  have hh : Clk W0 g c m r b s n := by rw [hW0]; exact h.below (below_alloc1 w _)
  have hB0 : Below w.heap.size w W0 := by rw [hW0]; exact below_alloc1 w _
  have a0 := heldK (kb.cell 0)
  have a1 := heldK (kb.cell 1)
  have a2 := heldK (kb.cell 2)
  have a3 := heldK hh.c2
  have a4 := heldK hh.c3
  have a5 := heldK hh.c4
  have H := hide (And.intro hh hB0)
  have HW := hide hW0
  clear h kb hh hB0 hW0
  go_enter Tryz.func75, Tryz.ntmps75
  go_wp2
  rw [← unhide HW]
  have S0 := Below.refl W0.heap.size W0
  have hq := eq3 0 r b 0 r b
  simp only [beq_self_eq_true, Bool.and_self] at hq
  refine wp_region_held_drew (S := (fun w' => Below W0.heap.size W0 w')) (by kernel_rfl) ?_ (fun hHeld => ?_)
  · (first | (first | exact S0.drew | assumption))
  refine wpAnyH_take (i := 0) (oi := ?o1) (v := ?v1) ?hi1 (by kernel_rfl) (by kernel_rfl) (by kernel_rfl) ?hQ1 (Or.inl ⟨?hw1, ?hy1⟩) (by assumption) ?_
  case hi1 => (simp only [List.getElem?_toArray, List.getElem?_cons_zero]; rfl)
  case hQ1 => exact fun _ _ _ h => h
  case hw1 => rfl
  case hy1 => (intro w hSw; (try dsimp only at hSw); go_simp; (try with_reducible rfl))
  simp only [Act.put, List.setIfInBounds_toArray, List.set_cons_zero, List.set_cons_succ]
  refine wpAnyH_take (i := 1) (oi := ?o2) (v := ?v2) ?hi2 (by kernel_rfl) (by kernel_rfl) (by kernel_rfl) ?hQ2 (Or.inl ⟨?hw2, ?hy2⟩) (by assumption) ?_
  case hi2 => (simp only [List.getElem?_toArray, List.getElem?_cons_succ, List.getElem?_cons_zero]; rfl)
  case hQ2 => exact fun _ _ _ h => h
  case hw2 => rfl
  case hy2 => (intro w hSw; (try dsimp only at hSw); go_simp; (try with_reducible rfl))
  simp only [Act.put, List.setIfInBounds_toArray, List.set_cons_zero, List.set_cons_succ]
  refine wpAnyH_take (i := 2) (oi := ?o3) (v := ?v3) ?hi3 (by kernel_rfl) (by kernel_rfl) (by kernel_rfl) ?hQ3 (Or.inl ⟨?hw3, ?hy3⟩) (by assumption) ?_
  case hi3 => (simp only [List.getElem?_toArray, List.getElem?_cons_succ, List.getElem?_cons_zero]; rfl)
  case hQ3 => exact fun _ _ _ h => h
  case hw3 => rfl
  case hy3 => (intro w hSw; (try dsimp only at hSw); go_simp; (try with_reducible rfl))
  simp only [Act.put, List.setIfInBounds_toArray, List.set_cons_zero, List.set_cons_succ]
  refine wpAnyH_take (i := 3) (oi := ?o4) (v := ?v4) ?hi4 (by kernel_rfl) (by kernel_rfl) (by kernel_rfl) ?hQ4 (Or.inl ⟨?hw4, ?hy4⟩) (by assumption) ?_
  case hi4 => (simp only [List.getElem?_toArray, List.getElem?_cons_succ, List.getElem?_cons_zero]; rfl)
  case hQ4 => exact fun _ _ _ h => h
  case hw4 => rfl
  case hy4 => (intro w hSw; (try dsimp only at hSw); go_simp; (try with_reducible rfl))
  simp only [Act.put, List.setIfInBounds_toArray, List.set_cons_zero, List.set_cons_succ]
  refine wpAnyH_take (i := 4) (oi := ?o5) (v := ?v5) ?hi5 (by kernel_rfl) (by kernel_rfl) (by kernel_rfl) ?hQ5 (Or.inl ⟨?hw5, ?hy5⟩) (by assumption) ?_
  case hi5 => (simp only [List.getElem?_toArray, List.getElem?_cons_succ, List.getElem?_cons_zero]; rfl)
  case hQ5 => exact fun _ _ _ h => h
  case hw5 => rfl
  case hy5 => (intro w hSw; (try dsimp only at hSw); go_simp; (try with_reducible rfl))
  simp only [Act.put, List.setIfInBounds_toArray, List.set_cons_zero, List.set_cons_succ]
  refine wpAnyH_take (i := 5) (oi := ?o6) (v := ?v6) ?hi6 (by kernel_rfl) (by kernel_rfl) (by kernel_rfl) ?hQ6 (Or.inl ⟨?hw6, ?hy6⟩) (by assumption) ?_
  case hi6 => (simp only [List.getElem?_toArray, List.getElem?_cons_succ, List.getElem?_cons_zero]; rfl)
  case hQ6 => exact fun _ _ _ h => h
  case hw6 => rfl
  case hy6 => (intro w hSw; (try dsimp only at hSw); go_simp; (try with_reducible rfl))
  simp only [Act.put, List.setIfInBounds_toArray, List.set_cons_zero, List.set_cons_succ]
  refine wpAnyH_done (by kernel_rfl) ?_ _
  go_wp2_with fail
  go_end0
  exact ⟨rfl, (unhide H).1.below (by assumption), (Tch.of_below (unhide H).2).trans (Tch.of_below (by assumption))⟩
theorem grow_diff (w : World) (h : Clk w g c m r b s n) (x y R Z : Int) (hR : r + x = R) (hZ : b + y = Z) (R1 : -9223372036854775808 ≤ R) (R2 : R ≤ 9223372036854775807) (Z1 : -9223372036854775808 ≤ Z) (Z2 : Z ≤ 9223372036854775807)
    (n0 : 0 ≤ n) (n1 : n ≤ 1000000) (hd : R ≠ r ∨ Z ≠ b) : Calls Tryz.prog 75 #[.pointer (some ⟨g, 0, none⟩), .int .i64 x, .int .i64 y] w fun e w' => e = .returned (.tuple #[]) ∧ Clk w' g c m R Z s (n + 1) ∧ Tch g w w' := by
  have c2 := h.c2
  have c3 := h.c3
  have c4 := h.c4
  obtain ⟨B, hB⟩ : ∃ B, w.heap.size = B := ⟨_, rfl⟩
  obtain ⟨W0, hW0⟩ : ∃ W0, W0 = w.alloc (.cells #[.int .i64 0, .int .i64 R, .int .i64 Z] 75) := ⟨_, rfl⟩
  have kb : Blk W0 B 75 #[.int .i64 0, .int .i64 R, .int .i64 Z] := by rw [hW0]; exact Blk.new_at _ _ _ hB.symm
  have hh : Clk W0 g c m r b s n := by rw [hW0]; exact h.below (below_alloc1 w _)
  have hB0 : Below w.heap.size w W0 := by rw [hW0]; exact below_alloc1 w _
  have hgB : g ≠ B := by have := Blk.lt h; omega
  have a0 := heldK (kb.cell 0)
  have a1 := heldK (kb.cell 1)
  have a2 := heldK (kb.cell 2)
  have a3 := heldK hh.c2
  have a4 := heldK hh.c3
  have a5 := heldK hh.c4
  have hq := eq3 0 R Z 0 r b
  have hfl : ((0 : Int) == 0 && (R == r && Z == b)) = false := by
    rcases hd with hd | hd
    · simp [hd]
    · simp [hd]
  rw [hfl] at hq
  have H := hide (And.intro hh hB0)
  have HK := hide kb
  have HW := hide hW0
  have HG := hide hgB
  clear h kb hh hB0 hW0 hgB hfl hd
  have key : ∀ w', Hid (Below W0.heap.size W0 w') → Hid (Clk w' g c m r b s n ∧ Blk w' B 75 #[.int .i64 0, .int .i64 R, .int .i64 Z] ∧ Tch g w w') := fun w' hb =>
    hide ⟨(unhide H).1.below (unhide hb), (unhide HK).below (unhide hb) (Blk.lt (unhide HK)), (Tch.of_below (unhide H).2).trans (Tch.of_below (unhide hb))⟩
  go_enter Tryz.func75, Tryz.ntmps75
  go_wp2
  rw [← unhide HW]
  have S0 := Below.refl W0.heap.size W0
  refine wp_region_held_drew (S := (fun w' => Below W0.heap.size W0 w')) (by kernel_rfl) ?_ (fun hHeld => ?_)
  · (first | (first | exact S0.drew | assumption))
  refine wpAnyH_take (i := 0) (oi := ?o7) (v := ?v7) ?hi7 (by kernel_rfl) (by kernel_rfl) (by kernel_rfl) ?hQ7 (Or.inl ⟨?hw7, ?hy7⟩) (by assumption) ?_
  case hi7 => (simp only [List.getElem?_toArray, List.getElem?_cons_zero]; rfl)
  case hQ7 => exact fun _ _ _ h => h
  case hw7 => rfl
  case hy7 => (intro w hSw; (try dsimp only at hSw); go_simp; (try with_reducible rfl))
  simp only [Act.put, List.setIfInBounds_toArray, List.set_cons_zero, List.set_cons_succ]
  refine wpAnyH_take (i := 1) (oi := ?o8) (v := ?v8) ?hi8 (by kernel_rfl) (by kernel_rfl) (by kernel_rfl) ?hQ8 (Or.inl ⟨?hw8, ?hy8⟩) (by assumption) ?_
  case hi8 => (simp only [List.getElem?_toArray, List.getElem?_cons_succ, List.getElem?_cons_zero]; rfl)
  case hQ8 => exact fun _ _ _ h => h
  case hw8 => rfl
  case hy8 => (intro w hSw; (try dsimp only at hSw); go_simp; (try with_reducible rfl))
  simp only [Act.put, List.setIfInBounds_toArray, List.set_cons_zero, List.set_cons_succ]
  refine wpAnyH_take (i := 2) (oi := ?o9) (v := ?v9) ?hi9 (by kernel_rfl) (by kernel_rfl) (by kernel_rfl) ?hQ9 (Or.inl ⟨?hw9, ?hy9⟩) (by assumption) ?_
  case hi9 => (simp only [List.getElem?_toArray, List.getElem?_cons_succ, List.getElem?_cons_zero]; rfl)
  case hQ9 => exact fun _ _ _ h => h
  case hw9 => rfl
  case hy9 => (intro w hSw; (try dsimp only at hSw); go_simp; (try with_reducible rfl))
  simp only [Act.put, List.setIfInBounds_toArray, List.set_cons_zero, List.set_cons_succ]
  refine wpAnyH_take (i := 3) (oi := ?o10) (v := ?v10) ?hi10 (by kernel_rfl) (by kernel_rfl) (by kernel_rfl) ?hQ10 (Or.inl ⟨?hw10, ?hy10⟩) (by assumption) ?_
  case hi10 => (simp only [List.getElem?_toArray, List.getElem?_cons_succ, List.getElem?_cons_zero]; rfl)
  case hQ10 => exact fun _ _ _ h => h
  case hw10 => rfl
  case hy10 => (intro w hSw; (try dsimp only at hSw); go_simp; (try with_reducible rfl))
  simp only [Act.put, List.setIfInBounds_toArray, List.set_cons_zero, List.set_cons_succ]
  refine wpAnyH_take (i := 4) (oi := ?o11) (v := ?v11) ?hi11 (by kernel_rfl) (by kernel_rfl) (by kernel_rfl) ?hQ11 (Or.inl ⟨?hw11, ?hy11⟩) (by assumption) ?_
  case hi11 => (simp only [List.getElem?_toArray, List.getElem?_cons_succ, List.getElem?_cons_zero]; rfl)
  case hQ11 => exact fun _ _ _ h => h
  case hw11 => rfl
  case hy11 => (intro w hSw; (try dsimp only at hSw); go_simp; (try with_reducible rfl))
  simp only [Act.put, List.setIfInBounds_toArray, List.set_cons_zero, List.set_cons_succ]
  refine wpAnyH_take (i := 5) (oi := ?o12) (v := ?v12) ?hi12 (by kernel_rfl) (by kernel_rfl) (by kernel_rfl) ?hQ12 (Or.inl ⟨?hw12, ?hy12⟩) (by assumption) ?_
  case hi12 => (simp only [List.getElem?_toArray, List.getElem?_cons_succ, List.getElem?_cons_zero]; rfl)
  case hQ12 => exact fun _ _ _ h => h
  case hw12 => rfl
  case hy12 => (intro w hSw; (try dsimp only at hSw); go_simp; (try with_reducible rfl))
  simp only [Act.put, List.setIfInBounds_toArray, List.set_cons_zero, List.set_cons_succ]
  refine wpAnyH_done (by kernel_rfl) ?_ _
  have HX := key _ (hide hHeld)
  have k2 := (unhide H).1.c2
  have k3 := (unhide H).1.c3
  have k4 := (unhide H).1.c4
  have k6 := (unhide H).1.c6
  have f := (unhide H).1.fr
  have q0 := (unhide HK).cell 0
  have q1 := (unhide HK).cell 1
  have q2 := (unhide HK).cell 2
  clear a0 a1 a2 a3 a4 a5 c2 c3 c4
  go_wp2_with fail
  go_end0
  exact ⟨rfl, ((((unhide HX).1.set2).set3 R).set4 Z).set6 (n + 1), ((((unhide HX).2.2.set 2 _).set 3 _).set 4 _).set 6 _⟩
theorem cset_bad (w : World) (g : Nat) (t : Int) (h : t < 0 ∨ 1152921504606846976 < t) : Calls Tryz.prog 38 #[.pointer (some ⟨g, 0, none⟩), .int .i64 t] w fun e w' => e = .returned (.int .i64 2) ∧ w' = w := by
  by_cases h1 : t < 0
  · clear h
    go_enter Tryz.func38, Tryz.ntmps38
    go_wp2
    go_ret
    exact ⟨rfl, rfl⟩
  · have h2 : 1152921504606846976 < t := by omega
    clear h
    go_enter Tryz.func38, Tryz.ntmps38
    go_wp2
    go_ret
    exact ⟨rfl, rfl⟩
/-- Clock g counts so far, Mono reads m, Real v, Boot q. -/
structure Nums (c m v q n : Int) : Prop where
  m0 : 0 ≤ m
  mq : m ≤ q
  qc : q ≤ c
  c1 : c ≤ 1152921504606846976
  v0 : 0 ≤ v
  v1 : v ≤ 1152921504606846976 + q
  n0 : 0 ≤ n
  n1 : n ≤ 1000
theorem nowR (w : World) {v q : Int} (h : Clk w g c m (v - m) (q - m) s n) (hn : Nums c m v q n) (k : Int) (h0 : 0 ≤ k) (h2 : k ≤ 2) : Calls Tryz.prog 54 #[.pointer (some ⟨g, 0, none⟩), .int .i64 k] w fun e w' => e = .returned (.tuple #[.int .i64 (if k = 1 then v else if k = 2 then q else m), .bool true]) ∧ w' = w := by
  obtain ⟨a1, a2, a3, a4, a5, a6, a7, a8⟩ := hn
  have e : m + offK k (v - m) (q - m) = if k = 1 then v else if k = 2 then q else m := by
    unfold offK
    split
    · omega
    · split <;> omega
  have := cnow_in w h k h0 h2 _ rfl (by rw [e]; split <;> (try split) <;> omega) (by rw [e]; split <;> (try split) <;> omega)
  rw [e] at this
  exact this
theorem growR (w : World) {v q : Int} (h : Clk w g c m (v - m) (q - m) s n) (hn : Nums c m v q n) (x y v' q' n' : Int) (hv : v + x = v') (hq : q + y = q') (v0 : 0 ≤ v') (v1 : v' ≤ 4611686018427387904) (q0 : 0 ≤ q') (q1 : q' ≤ 1152921504606846976) (hn' : n' = if v' = v ∧ q' = q then n else n + 1) :
    Calls Tryz.prog 75 #[.pointer (some ⟨g, 0, none⟩), .int .i64 x, .int .i64 y] w fun e w' => e = .returned (.tuple #[]) ∧ Clk w' g c m (v' - m) (q' - m) s n' ∧ Tch g w w' := by
  obtain ⟨a1, a2, a3, a4, a5, a6, a7, a8⟩ := hn
  by_cases hs : v' = v ∧ q' = q
  · rw [if_pos hs] at hn'
    obtain ⟨rfl, rfl⟩ := hs
    obtain rfl : x = 0 := by omega
    obtain rfl : y = 0 := by omega
    subst hn'
    exact grow_same w h (by omega) (by omega) (by omega) (by omega)
  · rw [if_neg hs] at hn'
    subst hn'
    exact grow_diff w h x y (v' - m) (q' - m) (by omega) (by omega) (by omega) (by omega) (by omega) (by omega) a7 (by omega) (by omega)
theorem cset_ok (w : World) {v q : Int} (h : Clk w g c m (v - m) (q - m) s n) (hn : Nums c m v q n) (t : Int) (h0 : 0 ≤ t) (h1 : t ≤ 1152921504606846976) (n' : Int) (hn' : n' = if t = v then n else n + 1) :
    Calls Tryz.prog 38 #[.pointer (some ⟨g, 0, none⟩), .int .i64 t] w fun e w' => e = .returned (.int .i64 0) ∧ Clk w' g c m (t - m) (q - m) s n' ∧ Tch g w w' := by
  have C := hide (nowR w h hn 1 (by decide) (by decide))
  rw [if_pos rfl] at C
  obtain ⟨a1, a2, a3, a4, a5, a6, a7, a8⟩ := hn
  have CG := hide (growR w h ⟨a1, a2, a3, a4, a5, a6, a7, a8⟩ (t - v) 0 t q n' (by omega) (by omega) h0 (by omega) (by omega) (by omega) (by rw [hn']; simp))
  clear h hn'
  go_enter Tryz.func38, Tryz.ntmps38
  go_wp2_with (first | (go_at_call 54; refine (unhide C).mono ?_; rintro e w1 ⟨rfl, rfl⟩) | (go_at_call 75; refine (unhide CG).mono ?_; rintro e w2 ⟨rfl, k2, t2⟩))
  go_ret
  exact ⟨rfl, k2, t2⟩
theorem resume_bad (w : World) {r b : Int} (h : Clk w g c m r b false n) : Calls Tryz.prog 40 #[.pointer (some ⟨g, 0, none⟩)] w fun e w' => e = .returned (.int .i64 8) ∧ w' = w := by
  have c5 := h.c5
  clear h
  go_enter Tryz.func40, Tryz.ntmps40
  go_wp2
  go_ret
  exact ⟨rfl, rfl⟩
end
end Go.Proofs.YtjjdkkdnlnbedaaGreat


namespace Go.Proofs.YtjjdkkdnlnbedaaGreat
open Go.RowKit Kt

section
variable {g : Nat} {c m n v q : Int} {s : Bool}
/-- What a region keeps that lets the offsets grow. -/
def CkS (g : Nat) (c : Int) (w1 w' : World) : Prop := ∃ m r b s n, Clk w' g c m r b s n ∧ Tch g w1 w'
theorem CkS.c0 {g : Nat} {c : Int} {w1 : World} : ∀ w', CkS g c w1 w' → w'.cell? ⟨g, 0, none⟩ = some (.int .i64 c) := fun w' h => by
  obtain ⟨m, r, b, s, n, h, _⟩ := h
  exact h.c0
set_option maxRecDepth 100000 in
set_option maxHeartbeats 1000000 in
theorem resume_ok (w : World) (h : Clk w g c m (v - m) (q - m) true n) (hn : Nums c m v q n) (n' : Int) (hn' : n' = if c = q then n else n + 1) :
    Calls Tryz.prog 40 #[.pointer (some ⟨g, 0, none⟩)] w fun e w' => e = .returned (.int .i64 0) ∧ Clk w' g c m (v + (c - q) - m) (c - m) false n' ∧ Tch g w w' := by
  have c5 := h.c5
  have f := h.fr
  have h1 := h.set5 false
  have t1 := (Tch.refl g w).set 5 (.bool false)
  obtain ⟨w1, hw1⟩ : ∃ w1, w1 = w.setCell ⟨g, 5, none⟩ (.bool false) := ⟨_, rfl⟩
  rw [← hw1] at h1 t1
  have HW := hide hw1
  clear hw1 h
  have C := hide (nowR w1 h1 hn 2 (by decide) (by decide))
  rw [if_neg (by decide), if_pos rfl] at C
  have hb1 : Below w1.heap.size w1 w1.drew := (Below.refl _ _).drew
  have hE : n' = if v + (c - q) = v ∧ c = q then n else n + 1 := by
    rw [hn']
    by_cases e : c = q
    · rw [if_pos e, if_pos ⟨by omega, e⟩]
    · rw [if_neg e, if_neg (fun h => e h.2)]
  have hn2 := hn
  obtain ⟨a1, a2, a3, a4, a5, a6, a7, a8⟩ := hn2
  have CG := hide (growR w1.drew (h1.below hb1) hn (c - q) (c - q) (v + (c - q)) c n' rfl (by omega) (by omega) (by omega) (by omega) a4 hE)
  have S0 : CkS g c w1 w1.drew := ⟨_, _, _, _, _, h1.below hb1, Tch.of_below hb1⟩
  have hR := @CkS.c0 g c w1
  have HT := hide t1
  have HB := hide hb1
  obtain ⟨D, hD⟩ : ∃ D, c - q = D := ⟨_, rfl⟩
  rw [hD] at CG
  have d0 : 0 ≤ D := by omega
  have d1 : D ≤ 1152921504606846976 := by omega
  have d2 : IntKind.i64.wrap D = D := by rw [IntKind.wrap_i64]; omega
  rw [hD]
  clear hn hn' hE h1 t1 hb1 a5 a6 a7 a8
  go_enter Tryz.func40, Tryz.ntmps40
  go_wp2_with (go_at_call 54; refine Hid.out ?_)
  refine hide ?_
  rw [← unhide HW]
  refine (unhide C).mono ?_
  rintro e w2 ⟨rfl, rfl⟩
  clear C c5 f HW
  go_wp2_with fail
  refine wp_region_held_drew (S := (fun w' => CkS g c w2 w')) (by kernel_rfl) ?_ (fun hHeld => ?_)
  · (first | (first | exact S0 | assumption))
  refine wpAnyH_take (i := 0) (oi := ?o13) (v := ?v13) ?hi13 (by kernel_rfl) (by kernel_rfl) (by kernel_rfl) ?hQ13 (Or.inl ⟨?hw13, ?hy13⟩) (by assumption) ?_
  case hi13 => (simp only [List.getElem?_toArray, List.getElem?_cons_zero]; rfl)
  case hQ13 => exact fun _ _ _ h => h
  case hw13 => rfl
  case hy13 => (intro w hSw; (try dsimp only at hSw); go_simp; (try with_reducible rfl))
  simp only [Act.put, List.setIfInBounds_toArray, List.set_cons_zero, List.set_cons_succ]
  refine wpAnyH_take (i := 1) (oi := ?o14) (v := ?v14) ?hi14 (by kernel_rfl) (by kernel_rfl) (by kernel_rfl) ?hQ14 (Or.inl ⟨?hw14, ?hy14⟩) (by assumption) ?_
  case hi14 => (simp only [List.getElem?_toArray, List.getElem?_cons_succ, List.getElem?_cons_zero]; rfl)
  case hQ14 => exact fun _ _ _ h => h
  case hw14 => rfl
  case hy14 => (intro w hSw; (try dsimp only at hSw); go_simp; (try with_reducible rfl))
  simp only [Act.put, List.setIfInBounds_toArray, List.set_cons_zero, List.set_cons_succ]
  refine wpAnyH_take (i := 2) (oi := ?o15) (v := ?v15) ?hi15 (by kernel_rfl) (by kernel_rfl) (by kernel_rfl) ?hQ15 (Or.inl ⟨?hw15, ?hy15⟩) (by assumption) ?_
  case hi15 => (simp only [List.getElem?_toArray, List.getElem?_cons_succ, List.getElem?_cons_zero]; rfl)
  case hQ15 => exact fun _ _ _ h => h
  case hw15 => rfl
  case hy15 => (intro w hSw; (try dsimp only at hSw); go_simp; (try with_reducible rfl))
  simp only [Act.put, List.setIfInBounds_toArray, List.set_cons_zero, List.set_cons_succ]
  refine wpAnyH_take (i := 3) (oi := ?o16) (v := ?v16) ?hi16 (by kernel_rfl) (by kernel_rfl) (by kernel_rfl) ?hQ16 (Or.inl ⟨?hw16, ?hy16⟩) (by assumption) ?_
  case hi16 => (simp only [List.getElem?_toArray, List.getElem?_cons_succ, List.getElem?_cons_zero]; rfl)
  case hQ16 => exact fun _ _ _ h => h
  case hw16 => rfl
  case hy16 => (intro w hSw; (try dsimp only at hSw); go_simp; (try with_reducible rfl))
  simp only [Act.put, List.setIfInBounds_toArray, List.set_cons_zero, List.set_cons_succ]
  refine wpAnyH_take (i := 4) (oi := ?o17) (v := ?v17) ?hi17 (by kernel_rfl) (by kernel_rfl) (by kernel_rfl) ?hQ17 (Or.inl ⟨?hw17, ?hy17⟩) (by assumption) ?_
  case hi17 => (simp only [List.getElem?_toArray, List.getElem?_cons_succ, List.getElem?_cons_zero]; rfl)
  case hQ17 => exact fun _ _ _ h => h
  case hw17 => rfl
  case hy17 => (intro w hSw; (try dsimp only at hSw); go_simp; (try with_reducible rfl))
  simp only [Act.put, List.setIfInBounds_toArray, List.set_cons_zero, List.set_cons_succ]
  refine wpAnyH_take (i := 5) (oi := ?o18) (v := ?v18) ?hi18 (by kernel_rfl) (by kernel_rfl) (by kernel_rfl) ?hQ18 (Or.inl ⟨?hw18, ?hy18⟩) (by assumption) ?_
  case hi18 => (simp only [List.getElem?_toArray, List.getElem?_cons_succ, List.getElem?_cons_zero]; rfl)
  case hQ18 => exact fun _ _ _ h => h
  case hw18 => rfl
  case hy18 => (intro w hSw; (try dsimp only at hSw); go_simp; (try with_reducible rfl))
  simp only [Act.put, List.setIfInBounds_toArray, List.set_cons_zero, List.set_cons_succ]
  refine wpAnyH_take (i := 6) (oi := ?o19) (v := ?v19) ?hi19 (by kernel_rfl) (by kernel_rfl) (by kernel_rfl) ?hQ19 (Or.inl ⟨?hw19, ?hy19⟩) (by assumption) ?_
  case hi19 => (simp only [List.getElem?_toArray, List.getElem?_cons_succ, List.getElem?_cons_zero]; rfl)
  case hQ19 => exact fun _ _ _ h => h
  case hw19 => rfl
  case hy19 => (intro w hSw; (try dsimp only at hSw); go_simp; (try with_reducible rfl))
  simp only [Act.put, List.setIfInBounds_toArray, List.set_cons_zero, List.set_cons_succ]
  refine wpAnyH_take (i := 7) (oi := ?o20) (v := ?v20) ?hi20 (by kernel_rfl) (by kernel_rfl) (by kernel_rfl) ?hQ20 (Or.inl ⟨?hw20, ?hy20⟩) (by assumption) ?_
  case hi20 => (simp only [List.getElem?_toArray, List.getElem?_cons_succ, List.getElem?_cons_zero]; rfl)
  case hQ20 => exact fun _ _ _ h => h
  case hw20 => rfl
  case hy20 => (intro w hSw; (try dsimp only at hSw); go_simp; (try with_reducible rfl))
  simp only [Act.put, List.setIfInBounds_toArray, List.set_cons_zero, List.set_cons_succ]
  refine wpAnyH_take (i := 8) (oi := ?o21) (v := ?v21) ?hi21 (by kernel_rfl) (by kernel_rfl) (by kernel_rfl) ?hQ21 (Or.inl ⟨?hw21, ?hy21⟩) (by assumption) ?_
  case hi21 => (simp only [List.getElem?_toArray, List.getElem?_cons_succ, List.getElem?_cons_zero]; rfl)
  case hQ21 => exact fun _ _ _ h => h
  case hw21 => rfl
  case hy21 => (intro w hSw; (try dsimp only at hSw); go_simp; (try with_reducible rfl))
  simp only [Act.put, List.setIfInBounds_toArray, List.set_cons_zero, List.set_cons_succ]
  refine wpAnyH_take (i := 9) (oi := ?o22) (v := ?v22) ?hi22 (by kernel_rfl) (by kernel_rfl) (by kernel_rfl) ?hQ22 (Or.inl ⟨?hw22, ?hy22⟩) (by assumption) ?_
  case hi22 => (simp only [List.getElem?_toArray, List.getElem?_cons_succ, List.getElem?_cons_zero]; rfl)
  case hQ22 => exact fun _ _ _ h => h
  case hw22 => rfl
  case hy22 => (intro w hSw; (try dsimp only at hSw); go_simp; (try with_reducible rfl))
  simp only [Act.put, List.setIfInBounds_toArray, List.set_cons_zero, List.set_cons_succ]
  refine wpAnyH_take (i := 10) (oi := ?o23) (v := ?v23) ?hi23 (by kernel_rfl) (by kernel_rfl) (by kernel_rfl) ?hQ23 (Or.inl ⟨?hw23, ?hy23⟩) (by assumption) ?_
  case hi23 => (simp only [List.getElem?_toArray, List.getElem?_cons_succ, List.getElem?_cons_zero]; rfl)
  case hQ23 => exact fun _ _ _ h => h
  case hw23 => rfl
  case hy23 => (intro w hSw; (try dsimp only at hSw); go_simp; (try with_reducible rfl))
  simp only [Act.put, List.setIfInBounds_toArray, List.set_cons_zero, List.set_cons_succ]
  refine wpAnyH_take (i := 11) (oi := ?o24) (v := ?v24) ?hi24 (by kernel_rfl) (by kernel_rfl) (by kernel_rfl) ?hQ24 (Or.inl ⟨?hw24, ?hy24⟩) (by assumption) ?_
  case hi24 => (simp only [List.getElem?_toArray, List.getElem?_cons_succ, List.getElem?_cons_zero]; rfl)
  case hQ24 => exact fun _ _ _ h => h
  case hw24 => rfl
  case hy24 => (intro w hSw; (try dsimp only at hSw); go_simp; (try with_reducible rfl))
  simp only [Act.put, List.setIfInBounds_toArray, List.set_cons_zero, List.set_cons_succ]
  refine wpAnyH_take (i := 12) (oi := ?o25) (v := ?v25) ?hi25 (by kernel_rfl) (by kernel_rfl) (by kernel_rfl) ?hQ25 (Or.inl ⟨?hw25, ?hy25⟩) (by assumption) ?_
  case hi25 => (simp only [List.getElem?_toArray, List.getElem?_cons_succ, List.getElem?_cons_zero]; rfl)
  case hQ25 => exact fun _ _ _ h => h
  case hw25 => rfl
  case hy25 => (intro w hSw; (try dsimp only at hSw); go_simp; (try with_reducible rfl))
  simp only [Act.put, List.setIfInBounds_toArray, List.set_cons_zero, List.set_cons_succ]
  refine wpAnyH_ready (rs := [13]) (by kernel_rfl) (by simp) ?_
  refine AllReadyH.cons (o := ?o26) ?hi26 (fun K hK => ?_) AllReadyH.nil
  case hi26 => (simp only [List.getElem?_toArray, List.getElem?_cons_succ, List.getElem?_cons_zero]; rfl)
  go_simp
  go_at_call 75; refine (unhide CG).mono ?_; rintro e w5 ⟨rfl, k5, t5⟩; have S5 : CkS g c w2 w5 := ⟨_, _, _, _, _, k5, (Tch.of_below (unhide HB)).trans t5⟩; have H5 := hide (And.intro k5 t5); clear k5 t5; go_wp2_with fail
  refine hK.out _ _ ?_ (fun hHeld => ?_)
  · (first | (first | exact S0 | assumption))
  clear hK K
  refine wpAnyH_done (by kernel_rfl) ?_ _
  go_wp2_with fail
  go_ret
  exact ⟨rfl, (unhide H5).1, ((unhide HT).trans (Tch.of_below (unhide HB))).trans (unhide H5).2⟩
end
/-- A clock of one's own, behind all that was there. -/
structure CB (B : Nat) (w0 w : World) (g : Nat) (c m v q : Int) (s : Bool) (n : Int) : Prop where
  clk : Clk w g c m (v - m) (q - m) s n
  nums : Nums c m v q n
  low : Below B w0 w
  ge : B ≤ g
  sz : B ≤ w.heap.size
section
variable {B g : Nat} {w0 w w' : World} {c m n v q : Int} {s : Bool}
theorem CB.step {c' m' v' q' n' : Int} {s' : Bool} (h : CB B w0 w g c m v q s n) (k : Clk w' g c' m' (v' - m') (q' - m') s' n') (hn : Nums c' m' v' q' n') (ht : Tch g w w') : CB B w0 w' g c' m' v' q' s' n' :=
  ⟨k, hn, ht.low h.low h.ge h.sz, h.ge, Nat.le_trans h.sz ht.size⟩
theorem CB.below (h : CB B w0 w g c m v q s n) (hb : Below w.heap.size w w') : CB B w0 w' g c m v q s n :=
  h.step (h.clk.below hb) h.nums (Tch.of_below hb)
/-- The numbers of a clock. -/
structure KS where
  c : Int
  m : Int
  v : Int
  q : Int
  s : Bool
  n : Int
def CBs (B : Nat) (w0 w : World) (g : Nat) (z : KS) : Prop := CB B w0 w g z.c z.m z.v z.q z.s z.n
/-- What each act comes to, and what it leaves. -/
def act0 (k : Int) (z : KS) : Int × KS := if k < 0 ∨ 1152921504606846976 - z.c < k then (2, z) else (0, ⟨z.c + k, if z.s = true then z.m else z.m + k, if z.s = true then z.v else z.v + k, if z.s = true then z.q else z.q + k, z.s, z.n⟩)
def actTo (t : Int) (z : KS) : Int × KS := if t < 0 ∨ 1152921504606846976 < t then (2, z) else (0, ⟨z.c, z.m, t, z.q, z.s, if t = z.v then z.n else z.n + 1⟩)
def act3 (z : KS) : Int × KS := if z.s = true then (8, z) else (0, ⟨z.c, z.m, z.v, z.q, true, z.n⟩)
def act4 (z : KS) : Int × KS := if z.s = true then (0, ⟨z.c, z.m, z.v + (z.c - z.q), z.c, false, if z.c = z.q then z.n else z.n + 1⟩) else (8, z)
def actK (K k : Int) (z : KS) : Int × KS := if K = 0 then act0 k z else if K = 1 then actTo k z else if K = 2 then actTo (z.v + k) z else if K = 3 then act3 z else act4 z
theorem Nums.real {c m v q n t : Int} (h : Nums c m v q n) (hn : n ≤ 900) (h0 : 0 ≤ t) (h1 : t ≤ 1152921504606846976) : Nums c m t q (if t = v then n else n + 1) := by
  obtain ⟨a1, a2, a3, a4, a5, a6, a7, a8⟩ := h
  exact ⟨a1, a2, a3, a4, h0, by omega, by split <;> omega, by split <;> omega⟩
/-- Time goes by. -/
theorem badv {z : KS} (h : CBs B w0 w g z) (k : Int) : Calls Tryz.prog 68 #[.pointer (some ⟨g, 0, none⟩), .int .i64 k] w fun e w' => e = .returned (.int .i64 (act0 k z).1) ∧ CBs B w0 w' g (act0 k z).2 ∧ Tch g w w' := by
  obtain ⟨a1, a2, a3, a4, a5, a6, a7, a8⟩ := h.nums
  unfold act0
  split
  · rename_i hk
    refine (adv_bad w h.clk k (by omega) a4 hk).mono ?_
    rintro e w' ⟨rfl, rfl⟩
    exact ⟨rfl, h, Tch.refl _ _⟩
  · rename_i hk
    refine (adv_ok w h.clk k (by omega) a4 a1 (by omega) (by omega) (by omega)).mono ?_
    rintro e w' ⟨rfl, k2, t2⟩
    refine ⟨rfl, h.step ?_ ?_ t2, t2⟩
    · obtain ⟨c, m, v, q, s, n⟩ := z
      cases s
      · simp only [Bool.false_eq_true, if_false] at k2 ⊢
        rw [show v + k - (m + k) = v - m by omega, show q + k - (m + k) = q - m by omega]
        exact k2
      · exact k2
    · obtain ⟨c, m, v, q, s, n⟩ := z
      simp only at a1 a2 a3 a4 a5 a6 a7 a8 hk
      cases s
      · exact ⟨by show 0 ≤ m + k; omega, by show m + k ≤ q + k; omega, by show q + k ≤ c + k; omega, by show c + k ≤ _; omega, by show 0 ≤ v + k; omega, by show v + k ≤ 1152921504606846976 + (q + k); omega, a7, a8⟩
      · exact ⟨a1, a2, by show q ≤ c + k; omega, by show c + k ≤ _; omega, a5, a6, a7, a8⟩
theorem bset {z : KS} (h : CBs B w0 w g z) (hn : z.n ≤ 900) (t : Int) : Calls Tryz.prog 38 #[.pointer (some ⟨g, 0, none⟩), .int .i64 t] w fun e w' => e = .returned (.int .i64 (actTo t z).1) ∧ CBs B w0 w' g (actTo t z).2 ∧ Tch g w w' := by
  unfold actTo
  split
  · rename_i hk
    refine (cset_bad w g t hk).mono ?_
    rintro e w' ⟨rfl, rfl⟩
    exact ⟨rfl, h, Tch.refl _ _⟩
  · rename_i hk
    have hN := h.nums.real hn (t := t) (by omega) (by omega)
    refine (cset_ok w h.clk h.nums t (by omega) (by omega) _ rfl).mono ?_
    rintro e w' ⟨rfl, k2, t2⟩
    exact ⟨rfl, h.step k2 hN t2, t2⟩
theorem bsusp {z : KS} (h : CBs B w0 w g z) : Calls Tryz.prog 39 #[.pointer (some ⟨g, 0, none⟩)] w fun e w' => e = .returned (.int .i64 (act3 z).1) ∧ CBs B w0 w' g (act3 z).2 ∧ Tch g w w' := by
  obtain ⟨c, m, v, q, s, n⟩ := z
  unfold act3
  cases s
  · refine (susp_ok w h.clk).mono ?_
    rintro e w' ⟨rfl, k2, t2⟩
    exact ⟨rfl, CB.step h k2 h.nums t2, t2⟩
  · refine (susp_bad w h.clk).mono ?_
    rintro e w' ⟨rfl, rfl⟩
    exact ⟨rfl, h, Tch.refl _ _⟩
theorem bresume {z : KS} (h : CBs B w0 w g z) (hn : z.n ≤ 900) : Calls Tryz.prog 40 #[.pointer (some ⟨g, 0, none⟩)] w fun e w' => e = .returned (.int .i64 (act4 z).1) ∧ CBs B w0 w' g (act4 z).2 ∧ Tch g w w' := by
  obtain ⟨c, m, v, q, s, n⟩ := z
  unfold act4
  cases s
  · refine (resume_bad w h.clk).mono ?_
    rintro e w' ⟨rfl, rfl⟩
    exact ⟨rfl, h, Tch.refl _ _⟩
  · obtain ⟨a1, a2, a3, a4, a5, a6, a7, a8⟩ := h.nums
    simp only at a1 a2 a3 a4 a5 a6 a7 a8 hn
    have hN : Nums c m (v + (c - q)) c (if c = q then n else n + 1) := ⟨a1, by omega, by omega, a4, by omega, by omega, by split <;> omega, by split <;> omega⟩
    refine (resume_ok w h.clk h.nums _ rfl).mono ?_
    rintro e w' ⟨rfl, k2, t2⟩
    exact ⟨rfl, CB.step h k2 hN t2, t2⟩
end
end Go.Proofs.YtjjdkkdnlnbedaaGreat

