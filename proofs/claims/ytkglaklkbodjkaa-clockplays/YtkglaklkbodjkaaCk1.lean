import Derived.Test.YtkglaklkbodjkaaKt
import Derived.Test.YtkglaklkbodjkaaTch
import Derived.RegionTactic
import Derived.Deep.QuietTactic
import Derived.BigQuiet
import Derived.Deep.RegionHeld3
namespace Go.Proofs.Ytkglaklkbodjkaa
open Go.RowKit Kt

/-- The cells of a clock: its counter, Mono, the offsets of Real and Boot, whether it is suspended, how often an offset changed. -/
def ck (c m r b : Int) (s : Bool) (n : Int) : Array Value := #[.int .i64 c, .int .i64 m, .int .i64 0, .int .i64 r, .int .i64 b, .bool s, .int .i64 n]
/-- A clock. -/
def Clk (w : World) (g : Nat) (c m r b : Int) (s : Bool) (n : Int) : Prop := Blk w g 85 (ck c m r b s n)
theorem heldK {W : World} {a : Addr} {v : Value} (h : W.cell? a = some v) : ∀ w', Below W.heap.size W w' → w'.cell? a = some v := fun w' hb => by
  rw [hb.cell (World.block_lt_of_cell? W a h)]; exact h
section
variable {g : Nat} {c m r b n : Int} {s : Bool}
theorem Clk.c0 {w : World} (h : Clk w g c m r b s n) : w.cell? ⟨g, 0, none⟩ = some (.int .i64 c) := h.cell 0
theorem Clk.c1 {w : World} (h : Clk w g c m r b s n) : w.cell? ⟨g, 1, none⟩ = some (.int .i64 m) := h.cell 1
theorem Clk.c2 {w : World} (h : Clk w g c m r b s n) : w.cell? ⟨g, 2, none⟩ = some (.int .i64 0) := h.cell 2
theorem Clk.c3 {w : World} (h : Clk w g c m r b s n) : w.cell? ⟨g, 3, none⟩ = some (.int .i64 r) := h.cell 3
theorem Clk.c4 {w : World} (h : Clk w g c m r b s n) : w.cell? ⟨g, 4, none⟩ = some (.int .i64 b) := h.cell 4
theorem Clk.c5 {w : World} (h : Clk w g c m r b s n) : w.cell? ⟨g, 5, none⟩ = some (.bool s) := h.cell 5
theorem Clk.c6 {w : World} (h : Clk w g c m r b s n) : w.cell? ⟨g, 6, none⟩ = some (.int .i64 n) := h.cell 6
theorem Clk.fr {w : World} (h : Clk w g c m r b s n) : ∀ j, w.frozen? ⟨g, j, none⟩ = false := Blk.free h
theorem Clk.below {w w' : World} (h : Clk w g c m r b s n) (hb : Below w.heap.size w w') : Clk w' g c m r b s n := Blk.below h hb (Blk.lt h)
theorem Clk.set0 {w : World} (h : Clk w g c m r b s n) (x : Int) : Clk (w.setCell ⟨g, 0, none⟩ (.int .i64 x)) g x m r b s n := Blk.put h 0 (.int .i64 x)
theorem Clk.set1 {w : World} (h : Clk w g c m r b s n) (x : Int) : Clk (w.setCell ⟨g, 1, none⟩ (.int .i64 x)) g c x r b s n := Blk.put h 1 (.int .i64 x)
theorem Clk.set2 {w : World} (h : Clk w g c m r b s n) : Clk (w.setCell ⟨g, 2, none⟩ (.int .i64 0)) g c m r b s n := Blk.put h 2 (.int .i64 0)
theorem Clk.set3 {w : World} (h : Clk w g c m r b s n) (x : Int) : Clk (w.setCell ⟨g, 3, none⟩ (.int .i64 x)) g c m x b s n := Blk.put h 3 (.int .i64 x)
theorem Clk.set4 {w : World} (h : Clk w g c m r b s n) (x : Int) : Clk (w.setCell ⟨g, 4, none⟩ (.int .i64 x)) g c m r x s n := Blk.put h 4 (.int .i64 x)
theorem Clk.set5 {w : World} (h : Clk w g c m r b s n) (x : Bool) : Clk (w.setCell ⟨g, 5, none⟩ (.bool x)) g c m r b x n := Blk.put h 5 (.bool x)
theorem Clk.set6 {w : World} (h : Clk w g c m r b s n) (x : Int) : Clk (w.setCell ⟨g, 6, none⟩ (.int .i64 x)) g c m r b s x := Blk.put h 6 (.int .i64 x)

theorem cnew_any (w : World) : Calls Try.prog 22 #[] w fun e w' => e = .returned (.pointer (some ⟨w.heap.size, 0, none⟩)) ∧ Clk w' w.heap.size 0 0 0 0 false 0 ∧ Below w.heap.size w w' := by
  go_enter Try.func22, Try.ntmps22
  go_wp2
  go_ret
  exact ⟨rfl, Blk.new _ _ _, (Below.refl _ _).alloc (Nat.le_refl _) _⟩
theorem suspd_any (w : World) (h : Clk w g c m r b s n) : Calls Try.prog 32 #[.pointer (some ⟨g, 0, none⟩)] w fun e w' => e = .returned (.bool s) ∧ w' = w := by
  have c5 := h.c5
  clear h
  go_enter Try.func32, Try.ntmps32
  go_wp2
  go_ret
  exact ⟨rfl, rfl⟩
theorem suspd_nil (w : World) : Calls Try.prog 32 #[.pointer none] w fun e w' => e = .returned (.bool false) ∧ w' = w := by
  go_enter Try.func32, Try.ntmps32
  go_wp2
  go_ret
  exact ⟨rfl, rfl⟩
theorem cgen_any (w : World) (h : Clk w g c m r b s n) : Calls Try.prog 33 #[.pointer (some ⟨g, 0, none⟩)] w fun e w' => e = .returned (.int .i64 n) ∧ w' = w := by
  have c6 := h.c6
  clear h
  go_enter Try.func33, Try.ntmps33
  go_wp2
  go_ret
  exact ⟨rfl, rfl⟩
theorem counter_any (w : World) (h : Clk w g c m r b s n) : Calls Try.prog 31 #[.pointer (some ⟨g, 0, none⟩)] w fun e w' => e = .returned (.int .i64 c) ∧ w' = w := by
  have c0 := h.c0
  clear h
  go_enter Try.func31, Try.ntmps31
  go_wp2
  go_ret
  exact ⟨rfl, rfl⟩
/-- The offset of a clock. -/
def offK (k r b : Int) : Int := if k = 1 then r else if k = 2 then b else 0
theorem offset_in (w : World) (h : Clk w g c m r b s n) (k : Int) (h0 : 0 ≤ k) (h2 : k ≤ 2) : Calls Try.prog 30 #[.pointer (some ⟨g, 0, none⟩), .int .i64 k] w fun e w' => e = .returned (.tuple #[.int .i64 (offK k r b), .bool true]) ∧ w' = w := by
  have c2 := h.c2
  have c3 := h.c3
  have c4 := h.c4
  clear h
  rcases (show k = 0 ∨ k = 1 ∨ k = 2 by omega) with rfl | rfl | rfl
  all_goals
    go_enter Try.func30, Try.ntmps30
    go_wp2
    go_ret2
    exact ⟨rfl, rfl⟩
theorem offset_out (w : World) (g : Nat) (k : Int) (hk : k < 0 ∨ 2 < k) : Calls Try.prog 30 #[.pointer (some ⟨g, 0, none⟩), .int .i64 k] w fun e w' => e = .returned (.tuple #[.int .i64 0, .bool false]) ∧ w' = w := by
  by_cases h : k < 0
  · clear hk
    go_enter Try.func30, Try.ntmps30
    go_wp2
    go_ret2
    exact ⟨rfl, rfl⟩
  · have h2 : 3 ≤ k := by omega
    clear hk
    go_enter Try.func30, Try.ntmps30
    go_wp2
    go_ret2
    exact ⟨rfl, rfl⟩
theorem cnow_in (w : World) (h : Clk w g c m r b s n) (k : Int) (h0 : 0 ≤ k) (h2 : k ≤ 2) (o : Int) (ho : offK k r b = o) (b0 : -9223372036854775808 ≤ m + o) (b1 : m + o ≤ 9223372036854775807) : Calls Try.prog 29 #[.pointer (some ⟨g, 0, none⟩), .int .i64 k] w fun e w' => e = .returned (.tuple #[.int .i64 (m + o), .bool true]) ∧ w' = w := by
  have c1 := h.c1
  have C := hide (offset_in w h k h0 h2)
  rw [ho] at C
  clear h ho
  go_enter Try.func29, Try.ntmps29
  go_wp2_with (go_at_call 30; refine (unhide C).mono ?_; rintro e w1 ⟨rfl, rfl⟩)
  go_ret2
  exact ⟨rfl, rfl⟩
theorem cnow_out (w : World) (g : Nat) (k : Int) (hk : k < 0 ∨ 2 < k) : Calls Try.prog 29 #[.pointer (some ⟨g, 0, none⟩), .int .i64 k] w fun e w' => e = .returned (.tuple #[.int .i64 0, .bool false]) ∧ w' = w := by
  have C := hide (offset_out w g k hk)
  clear hk
  go_enter Try.func29, Try.ntmps29
  go_wp2_with (go_at_call 30; refine (unhide C).mono ?_; rintro e w1 ⟨rfl, rfl⟩)
  go_ret2
  exact ⟨rfl, rfl⟩
theorem adv_nil (w : World) (k : Int) : Calls Try.prog 23 #[.pointer none, .int .i64 k] w fun e w' => e = .returned (.int .i64 1) ∧ w' = w := by
  go_enter Try.func23, Try.ntmps23
  go_wp2
  go_ret
  exact ⟨rfl, rfl⟩
theorem adv_bad (w : World) (h : Clk w g c m r b s n) (k : Int) (h0 : 0 ≤ c) (h1 : c ≤ 1152921504606846976) (hk : k < 0 ∨ 1152921504606846976 - c < k) : Calls Try.prog 23 #[.pointer (some ⟨g, 0, none⟩), .int .i64 k] w fun e w' => e = .returned (.int .i64 2) ∧ w' = w := by
  have c0 := h.c0
  clear h
  by_cases h2 : k < 0
  · clear hk
    go_enter Try.func23, Try.ntmps23
    go_wp2
    go_ret
    exact ⟨rfl, rfl⟩
  · have h3 : 1152921504606846976 - c < k := by omega
    clear hk
    go_enter Try.func23, Try.ntmps23
    go_wp2
    go_ret
    exact ⟨rfl, rfl⟩
theorem adv_ok (w : World) (h : Clk w g c m r b s n) (k : Int) (h0 : 0 ≤ c) (h1 : c ≤ 1152921504606846976) (m0 : 0 ≤ m) (m1 : m ≤ 1152921504606846976) (hk : 0 ≤ k) (hk2 : k ≤ 1152921504606846976 - c) : Calls Try.prog 23 #[.pointer (some ⟨g, 0, none⟩), .int .i64 k] w fun e w' => e = .returned (.int .i64 0) ∧ Clk w' g (c + k) (if s = true then m else m + k) r b s n ∧ Tch g w w' := by
  have c0 := h.c0
  have c1 := h.c1
  have c5 := h.c5
  have f := h.fr
  have H := hide h
  clear h
  cases s
  · go_enter Try.func23, Try.ntmps23
    go_wp2
    go_ret
    exact ⟨rfl, ((unhide H).set0 (c + k)).set1 (m + k), ((Tch.refl g w).set 0 _).set 1 _⟩
  · go_enter Try.func23, Try.ntmps23
    go_wp2
    go_ret
    exact ⟨rfl, (unhide H).set0 (c + k), (Tch.refl g w).set 0 _⟩
theorem susp_ok (w : World) (h : Clk w g c m r b false n) : Calls Try.prog 26 #[.pointer (some ⟨g, 0, none⟩)] w fun e w' => e = .returned (.int .i64 0) ∧ Clk w' g c m r b true n ∧ Tch g w w' := by
  have c5 := h.c5
  have f := h.fr
  have H := hide h
  clear h
  go_enter Try.func26, Try.ntmps26
  go_wp2
  go_ret
  exact ⟨rfl, (unhide H).set5 true, (Tch.refl g w).set 5 _⟩
theorem susp_bad (w : World) (h : Clk w g c m r b true n) : Calls Try.prog 26 #[.pointer (some ⟨g, 0, none⟩)] w fun e w' => e = .returned (.int .i64 8) ∧ w' = w := by
  have c5 := h.c5
  clear h
  go_enter Try.func26, Try.ntmps26
  go_wp2
  go_ret
  exact ⟨rfl, rfl⟩
end
end Go.Proofs.Ytkglaklkbodjkaa
