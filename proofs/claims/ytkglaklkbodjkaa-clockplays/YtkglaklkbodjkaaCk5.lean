import Derived.Test.YtkglaklkbodjkaaCk3
import Derived.BigRegion
namespace Go.Proofs.Ytkglaklkbodjkaa
open Go.RowKit Kt

/-- The cells of the plain counts: the counter, Mono, Real, Boot, what was slept, how often an offset changed, and whether it is asleep. -/
def pc (z : KS) (l : Int) : Array Value := #[.int .i64 z.c, .int .i64 z.m, .int .i64 z.v, .int .i64 z.q, .int .i64 l, .int .i64 z.n, .bool z.s]
/-- Plain counts. -/
def Pl (w : World) (g : Nat) (z : KS) (l : Int) : Prop := Blk w g 55 (pc z l)
/-- What was slept, behind an act. -/
def slept (K k : Int) (z : KS) (l : Int) : Int := if K = 0 then (if k < 0 ∨ 1152921504606846976 - z.c < k then l else if z.s = true then l + k else l) else if K = 3 then (if z.s = true then l else 0) else l
section
variable {g : Nat} {z : KS} {l : Int} {w : World}
theorem Pl.c0 (h : Pl w g z l) : w.cell? ⟨g, 0, none⟩ = some (.int .i64 z.c) := h.cell 0
theorem Pl.c1 (h : Pl w g z l) : w.cell? ⟨g, 1, none⟩ = some (.int .i64 z.m) := h.cell 1
theorem Pl.c2 (h : Pl w g z l) : w.cell? ⟨g, 2, none⟩ = some (.int .i64 z.v) := h.cell 2
theorem Pl.c3 (h : Pl w g z l) : w.cell? ⟨g, 3, none⟩ = some (.int .i64 z.q) := h.cell 3
theorem Pl.c4 (h : Pl w g z l) : w.cell? ⟨g, 4, none⟩ = some (.int .i64 l) := h.cell 4
theorem Pl.c5 (h : Pl w g z l) : w.cell? ⟨g, 5, none⟩ = some (.int .i64 z.n) := h.cell 5
theorem Pl.c6 (h : Pl w g z l) : w.cell? ⟨g, 6, none⟩ = some (.bool z.s) := h.cell 6
theorem Tch.drew1 {g : Nat} {a b : World} (h : Tch g a b) : Tch g a b.drew := ⟨h.os, h.tape, h.output, h.size, h.block⟩
theorem b1N (w : World) (o : Obj) (n : Nat) : Below w.heap.size w ((w.alloc o).drewN n) := ⟨rfl, rfl, rfl, (below_alloc1 w o).size, (below_alloc1 w o).block⟩
theorem Pl.s0 (h : Pl w g z l) (x : Int) : Pl (w.setCell ⟨g, 0, none⟩ (.int .i64 x)) g ⟨x, z.m, z.v, z.q, z.s, z.n⟩ l := Blk.put h 0 (.int .i64 x)
theorem Pl.s1 (h : Pl w g z l) (x : Int) : Pl (w.setCell ⟨g, 1, none⟩ (.int .i64 x)) g ⟨z.c, x, z.v, z.q, z.s, z.n⟩ l := Blk.put h 1 (.int .i64 x)
theorem Pl.s2 (h : Pl w g z l) (x : Int) : Pl (w.setCell ⟨g, 2, none⟩ (.int .i64 x)) g ⟨z.c, z.m, x, z.q, z.s, z.n⟩ l := Blk.put h 2 (.int .i64 x)
theorem Pl.s3 (h : Pl w g z l) (x : Int) : Pl (w.setCell ⟨g, 3, none⟩ (.int .i64 x)) g ⟨z.c, z.m, z.v, x, z.s, z.n⟩ l := Blk.put h 3 (.int .i64 x)
theorem Pl.s4 (h : Pl w g z l) (x : Int) : Pl (w.setCell ⟨g, 4, none⟩ (.int .i64 x)) g z x := Blk.put h 4 (.int .i64 x)
theorem Pl.s5 (h : Pl w g z l) (x : Int) : Pl (w.setCell ⟨g, 5, none⟩ (.int .i64 x)) g ⟨z.c, z.m, z.v, z.q, z.s, x⟩ l := Blk.put h 5 (.int .i64 x)
theorem Pl.s6 (h : Pl w g z l) (x : Bool) : Pl (w.setCell ⟨g, 6, none⟩ (.bool x)) g ⟨z.c, z.m, z.v, z.q, x, z.n⟩ l := Blk.put h 6 (.bool x)
set_option maxRecDepth 100000 in
set_option maxHeartbeats 1000000 in
theorem do_0_neg (w : World) (c m v q n l K k : Int) (s : Bool) (h : Pl w g ⟨c, m, v, q, s, n⟩ l) (hn : Nums c m v q n) (l0 : 0 ≤ l) (l1 : l ≤ c) (hK0 : 0 ≤ K) (hmd : K % 5 = 0) (hb : k < 0) :
    Calls Try.prog 28 #[.pointer (some ⟨g, 0, none⟩), .agg #[.int .u8 K, .int .i64 k]] w fun e w' => e = .returned (.int .i64 2) ∧ Pl w' g ⟨c, m, v, q, s, n⟩ l ∧ Tch g w w' := by
  have e6 : K.tmod 5 = 0 := by rw [Int.tmod_eq_emod_of_nonneg hK0]; exact hmd
  obtain ⟨a1, a2, a3, a4, a5, a6, a7, a8⟩ := hn
  obtain ⟨B, hB⟩ : ∃ B, w.heap.size = B := ⟨_, rfl⟩
  obtain ⟨W1, hW1⟩ : ∃ W1, W1 = w.alloc (.cells #[.int .u8 K, .int .i64 k] 57) := ⟨_, rfl⟩
  have kb : Blk W1 B 57 #[.int .u8 K, .int .i64 k] := by rw [hW1]; exact Blk.new_at _ _ _ hB.symm
  have hgl := Blk.lt h
  have hgB : g ≠ B := by omega
  have h1 : Pl W1 g ⟨c, m, v, q, s, n⟩ l := by rw [hW1]; exact Blk.alloc h _
  have HT : Hid (Tch g w W1) := hide (by rw [hW1]; exact Tch.of_below (below_alloc1 _ _))
  have c0 := h1.c0
  have c1 := h1.c1
  have c2 := h1.c2
  have c3 := h1.c3
  have c4 := h1.c4
  have c5 := h1.c5
  have c6 := h1.c6
  have b1 := kb.cell 1
  have b0 := kb.cell 0
  have f := Blk.free h1
  simp only at c0 c1 c2 c3 c4 c5 c6
  have a9 : 0 ≤ c := by omega
  have HW := hide hW1
  have H := hide h1
  clear h h1 a1 a2 a3 a5 a6 a7 a8 hW1 kb hgl
  go_enter Try.func28, Try.ntmps28
  go_wp2
  rw [← unhide HW]
  go_quiet (fail)
  go_wp2
  go_ret
  exact ⟨rfl, (unhide H), (unhide HT).drew _⟩
set_option maxRecDepth 100000 in
set_option maxHeartbeats 1000000 in
theorem do_0_big (w : World) (c m v q n l K k : Int) (s : Bool) (h : Pl w g ⟨c, m, v, q, s, n⟩ l) (hn : Nums c m v q n) (l0 : 0 ≤ l) (l1 : l ≤ c) (hK0 : 0 ≤ K) (hmd : K % 5 = 0) (hb : 1152921504606846976 < k) :
    Calls Try.prog 28 #[.pointer (some ⟨g, 0, none⟩), .agg #[.int .u8 K, .int .i64 k]] w fun e w' => e = .returned (.int .i64 2) ∧ Pl w' g ⟨c, m, v, q, s, n⟩ l ∧ Tch g w w' := by
  have e6 : K.tmod 5 = 0 := by rw [Int.tmod_eq_emod_of_nonneg hK0]; exact hmd
  obtain ⟨a1, a2, a3, a4, a5, a6, a7, a8⟩ := hn
  obtain ⟨B, hB⟩ : ∃ B, w.heap.size = B := ⟨_, rfl⟩
  obtain ⟨W1, hW1⟩ : ∃ W1, W1 = w.alloc (.cells #[.int .u8 K, .int .i64 k] 57) := ⟨_, rfl⟩
  have kb : Blk W1 B 57 #[.int .u8 K, .int .i64 k] := by rw [hW1]; exact Blk.new_at _ _ _ hB.symm
  have hgl := Blk.lt h
  have hgB : g ≠ B := by omega
  have h1 : Pl W1 g ⟨c, m, v, q, s, n⟩ l := by rw [hW1]; exact Blk.alloc h _
  have HT : Hid (Tch g w W1) := hide (by rw [hW1]; exact Tch.of_below (below_alloc1 _ _))
  have c0 := h1.c0
  have c1 := h1.c1
  have c2 := h1.c2
  have c3 := h1.c3
  have c4 := h1.c4
  have c5 := h1.c5
  have c6 := h1.c6
  have b1 := kb.cell 1
  have b0 := kb.cell 0
  have f := Blk.free h1
  simp only at c0 c1 c2 c3 c4 c5 c6
  have a9 : 0 ≤ c := by omega
  have g1 : decide (k < 0) = false := decide_eq_false (by omega)
  have HW := hide hW1
  have H := hide h1
  clear h h1 a1 a2 a3 a5 a6 a7 a8 hW1 kb hgl
  go_enter Try.func28, Try.ntmps28
  go_wp2
  rw [← unhide HW]
  go_quiet (fail)
  go_wp2
  go_ret
  exact ⟨rfl, (unhide H), (unhide HT).drew _⟩
set_option maxRecDepth 100000 in
set_option maxHeartbeats 1000000 in
theorem do_0_sum (w : World) (c m v q n l K k : Int) (s : Bool) (h : Pl w g ⟨c, m, v, q, s, n⟩ l) (hn : Nums c m v q n) (l0 : 0 ≤ l) (l1 : l ≤ c) (hK0 : 0 ≤ K) (hmd : K % 5 = 0) (hb : ¬ k < 0) (hb2 : ¬ 1152921504606846976 < k) (hb3 : 1152921504606846976 < c + k) :
    Calls Try.prog 28 #[.pointer (some ⟨g, 0, none⟩), .agg #[.int .u8 K, .int .i64 k]] w fun e w' => e = .returned (.int .i64 2) ∧ Pl w' g ⟨c, m, v, q, s, n⟩ l ∧ Tch g w w' := by
  have e6 : K.tmod 5 = 0 := by rw [Int.tmod_eq_emod_of_nonneg hK0]; exact hmd
  obtain ⟨a1, a2, a3, a4, a5, a6, a7, a8⟩ := hn
  obtain ⟨B, hB⟩ : ∃ B, w.heap.size = B := ⟨_, rfl⟩
  obtain ⟨W1, hW1⟩ : ∃ W1, W1 = w.alloc (.cells #[.int .u8 K, .int .i64 k] 57) := ⟨_, rfl⟩
  have kb : Blk W1 B 57 #[.int .u8 K, .int .i64 k] := by rw [hW1]; exact Blk.new_at _ _ _ hB.symm
  have hgl := Blk.lt h
  have hgB : g ≠ B := by omega
  have h1 : Pl W1 g ⟨c, m, v, q, s, n⟩ l := by rw [hW1]; exact Blk.alloc h _
  have HT : Hid (Tch g w W1) := hide (by rw [hW1]; exact Tch.of_below (below_alloc1 _ _))
  have c0 := h1.c0
  have c1 := h1.c1
  have c2 := h1.c2
  have c3 := h1.c3
  have c4 := h1.c4
  have c5 := h1.c5
  have c6 := h1.c6
  have b1 := kb.cell 1
  have b0 := kb.cell 0
  have f := Blk.free h1
  simp only at c0 c1 c2 c3 c4 c5 c6
  have a9 : 0 ≤ c := by omega
  have g1 : decide (k < 0) = false := decide_eq_false hb
  have g2 : decide (1152921504606846976 < k) = false := decide_eq_false hb2
  have g4 : 0 ≤ k := by omega
  have g5 : c + k ≤ 2305843009213693952 := by omega
  have HW := hide hW1
  have H := hide h1
  clear h h1 a1 a2 a3 a5 a6 a7 a8 hW1 kb hgl hb hb2
  go_enter Try.func28, Try.ntmps28
  go_wp2
  rw [← unhide HW]
  go_quiet (fail)
  go_wp2
  go_ret
  exact ⟨rfl, (unhide H), (unhide HT).drew _⟩
set_option maxRecDepth 100000 in
set_option maxHeartbeats 1000000 in
theorem do_0_sleep (w : World) (c m v q n l K k : Int) (h : Pl w g ⟨c, m, v, q, true, n⟩ l) (hn : Nums c m v q n) (l0 : 0 ≤ l) (l1 : l ≤ c) (hK0 : 0 ≤ K) (hmd : K % 5 = 0) (hb : ¬ (k < 0 ∨ 1152921504606846976 - c < k)) :
    Calls Try.prog 28 #[.pointer (some ⟨g, 0, none⟩), .agg #[.int .u8 K, .int .i64 k]] w fun e w' => e = .returned (.int .i64 0) ∧ Pl w' g ⟨c + k, m, v, q, true, n⟩ (l + k) ∧ Tch g w w' := by
  have e6 : K.tmod 5 = 0 := by rw [Int.tmod_eq_emod_of_nonneg hK0]; exact hmd
  obtain ⟨a1, a2, a3, a4, a5, a6, a7, a8⟩ := hn
  obtain ⟨B, hB⟩ : ∃ B, w.heap.size = B := ⟨_, rfl⟩
  obtain ⟨W1, hW1⟩ : ∃ W1, W1 = w.alloc (.cells #[.int .u8 K, .int .i64 k] 57) := ⟨_, rfl⟩
  have kb : Blk W1 B 57 #[.int .u8 K, .int .i64 k] := by rw [hW1]; exact Blk.new_at _ _ _ hB.symm
  have hgl := Blk.lt h
  have hgB : g ≠ B := by omega
  have h1 : Pl W1 g ⟨c, m, v, q, true, n⟩ l := by rw [hW1]; exact Blk.alloc h _
  have HT : Hid (Tch g w W1) := hide (by rw [hW1]; exact Tch.of_below (below_alloc1 _ _))
  have c0 := h1.c0
  have c1 := h1.c1
  have c2 := h1.c2
  have c3 := h1.c3
  have c4 := h1.c4
  have c5 := h1.c5
  have c6 := h1.c6
  have b1 := kb.cell 1
  have b0 := kb.cell 0
  have f := Blk.free h1
  simp only at c0 c1 c2 c3 c4 c5 c6
  have a9 : 0 ≤ c := by omega
  have g1 : decide (k < 0) = false := decide_eq_false (by omega)
  have g2 : decide (1152921504606846976 < k) = false := decide_eq_false (by omega)
  have g3 : decide (1152921504606846976 < c + k) = false := decide_eq_false (by omega)
  have g4 : 0 ≤ k := by omega
  have g5 : c + k ≤ 1152921504606846976 := by omega
  have HW := hide hW1
  have H := hide h1
  clear h h1 a1 a2 a3 a5 a6 a7 a8 hW1 kb hgl hb
  go_enter Try.func28, Try.ntmps28
  go_wp2
  rw [← unhide HW]
  go_quiet (fail)
  go_wp2
  go_region
  go_wp2
  go_region
  go_wp2
  go_ret
  exact ⟨rfl, ((unhide H).s0 (c + k)).s4 (l + k), ((((unhide HT).drew _).set 0 _).set 4 _).drew1⟩
set_option maxRecDepth 100000 in
set_option maxHeartbeats 1000000 in
theorem do_0_awake (w : World) (c m v q n l K k : Int) (h : Pl w g ⟨c, m, v, q, false, n⟩ l) (hn : Nums c m v q n) (l0 : 0 ≤ l) (l1 : l ≤ c) (hK0 : 0 ≤ K) (hmd : K % 5 = 0) (hb : ¬ (k < 0 ∨ 1152921504606846976 - c < k)) :
    Calls Try.prog 28 #[.pointer (some ⟨g, 0, none⟩), .agg #[.int .u8 K, .int .i64 k]] w fun e w' => e = .returned (.int .i64 0) ∧ Pl w' g ⟨c + k, m + k, v + k, q + k, false, n⟩ l ∧ Tch g w w' := by
  have e6 : K.tmod 5 = 0 := by rw [Int.tmod_eq_emod_of_nonneg hK0]; exact hmd
  obtain ⟨a1, a2, a3, a4, a5, a6, a7, a8⟩ := hn
  obtain ⟨B, hB⟩ : ∃ B, w.heap.size = B := ⟨_, rfl⟩
  obtain ⟨W1, hW1⟩ : ∃ W1, W1 = w.alloc (.cells #[.int .u8 K, .int .i64 k] 57) := ⟨_, rfl⟩
  have kb : Blk W1 B 57 #[.int .u8 K, .int .i64 k] := by rw [hW1]; exact Blk.new_at _ _ _ hB.symm
  have hgl := Blk.lt h
  have hgB : g ≠ B := by omega
  have h1 : Pl W1 g ⟨c, m, v, q, false, n⟩ l := by rw [hW1]; exact Blk.alloc h _
  have HT : Hid (Tch g w W1) := hide (by rw [hW1]; exact Tch.of_below (below_alloc1 _ _))
  have c0 := h1.c0
  have c1 := h1.c1
  have c2 := h1.c2
  have c3 := h1.c3
  have c4 := h1.c4
  have c5 := h1.c5
  have c6 := h1.c6
  have b1 := kb.cell 1
  have b0 := kb.cell 0
  have f := Blk.free h1
  simp only at c0 c1 c2 c3 c4 c5 c6
  have a9 : 0 ≤ c := by omega
  have g1 : decide (k < 0) = false := decide_eq_false (by omega)
  have g2 : decide (1152921504606846976 < k) = false := decide_eq_false (by omega)
  have g3 : decide (1152921504606846976 < c + k) = false := decide_eq_false (by omega)
  have g4 : 0 ≤ k := by omega
  have g5 : c + k ≤ 1152921504606846976 := by omega
  have g6 : 0 ≤ m := a1
  have g7 : m + k ≤ 1152921504606846976 := by omega
  have g8 : 0 ≤ v := a5
  have g9 : v + k ≤ 2305843009213693952 := by omega
  have g10 : 0 ≤ q := by omega
  have g11 : q + k ≤ 1152921504606846976 := by omega
  have HW := hide hW1
  have H := hide h1
  clear h h1 a1 a2 a3 a5 a6 a7 a8 hW1 kb hgl hb
  go_enter Try.func28, Try.ntmps28
  go_wp2
  rw [← unhide HW]
  go_quiet (fail)
  go_wp2
  go_region
  go_wp2
  go_region
  go_wp2
  go_ret
  exact ⟨rfl, ((((unhide H).s0 (c + k)).s1 (m + k)).s2 (v + k)).s3 (q + k), ((((((unhide HT).drew _).set 0 _).set 1 _).set 2 _).set 3 _).drew1⟩
end
end Go.Proofs.Ytkglaklkbodjkaa
