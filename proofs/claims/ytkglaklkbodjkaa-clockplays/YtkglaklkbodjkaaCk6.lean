import Derived.Test.YtkglaklkbodjkaaCk5
import Derived.Deep.DeepCutAuto
namespace Go.Proofs.Ytkglaklkbodjkaa
open Go.RowKit Kt
set_option linter.unusedVariables false
section
variable {g : Nat}
set_option maxRecDepth 100000 in
set_option maxHeartbeats 1000000 in
theorem do_1_neg (w : World) (c m v q n l K k : Int) (s : Bool) (h : Pl w g ⟨c, m, v, q, s, n⟩ l) (hn : Nums c m v q n) (l0 : 0 ≤ l) (l1 : l ≤ c) (hK0 : 0 ≤ K) (hmd : K % 5 = 1) (hb : k < 0) :
    Calls Try.prog 28 #[.pointer (some ⟨g, 0, none⟩), .agg #[.int .u8 K, .int .i64 k]] w fun e w' => e = .returned (.int .i64 2) ∧ Pl w' g ⟨c, m, v, q, s, n⟩ l ∧ Tch g w w' := by
  have e6 : K.tmod 5 = 1 := by rw [Int.tmod_eq_emod_of_nonneg hK0]; exact hmd
  obtain ⟨a1, a2, a3, a4, a5, a6, a7, a8⟩ := hn
  obtain ⟨B, hB⟩ : ∃ B, w.heap.size = B := ⟨_, rfl⟩
  obtain ⟨W1, hW1⟩ : ∃ W1, W1 = w.alloc (.cells #[.int .u8 K, .int .i64 k] 57) := ⟨_, rfl⟩
  have kb : Blk W1 B 57 #[.int .u8 K, .int .i64 k] := by rw [hW1]; exact Blk.new_at _ _ _ hB.symm
  have hgl := Blk.lt h
  have hgB : g ≠ B := by omega
  have h1 : Pl W1 g ⟨c, m, v, q, s, n⟩ l := by rw [hW1]; exact Blk.alloc h _
  have HT : Hid (Tch g w W1) := hide (by rw [hW1]; exact Tch.of_below (below_alloc1 _ _))
  have c0 := h1.c0
  have c1 := h1.c1
  have c2 := h1.c2
  have c3 := h1.c3
  have c4 := h1.c4
  have c5 := h1.c5
  have c6 := h1.c6
  have b1 := kb.cell 1
  have b0 := kb.cell 0
  have f := Blk.free h1
  simp only at c0 c1 c2 c3 c4 c5 c6
  have HW := hide hW1
  have H := hide h1
  clear h h1 a1 a2 a3 a5 a6 a7 a8 hW1 kb hgl
  go_enter Try.func28, Try.ntmps28
  go_upto_region 1 with fail
  rw [← unhide HW]
  go_wp2
  go_ret
  exact ⟨rfl, (unhide H), (unhide HT)⟩
set_option maxRecDepth 100000 in
set_option maxHeartbeats 1000000 in
theorem do_1_big (w : World) (c m v q n l K k : Int) (s : Bool) (h : Pl w g ⟨c, m, v, q, s, n⟩ l) (hn : Nums c m v q n) (l0 : 0 ≤ l) (l1 : l ≤ c) (hK0 : 0 ≤ K) (hmd : K % 5 = 1) (hb : 1152921504606846976 < k) :
    Calls Try.prog 28 #[.pointer (some ⟨g, 0, none⟩), .agg #[.int .u8 K, .int .i64 k]] w fun e w' => e = .returned (.int .i64 2) ∧ Pl w' g ⟨c, m, v, q, s, n⟩ l ∧ Tch g w w' := by
  have e6 : K.tmod 5 = 1 := by rw [Int.tmod_eq_emod_of_nonneg hK0]; exact hmd
  obtain ⟨a1, a2, a3, a4, a5, a6, a7, a8⟩ := hn
  obtain ⟨B, hB⟩ : ∃ B, w.heap.size = B := ⟨_, rfl⟩
  obtain ⟨W1, hW1⟩ : ∃ W1, W1 = w.alloc (.cells #[.int .u8 K, .int .i64 k] 57) := ⟨_, rfl⟩
  have kb : Blk W1 B 57 #[.int .u8 K, .int .i64 k] := by rw [hW1]; exact Blk.new_at _ _ _ hB.symm
  have hgl := Blk.lt h
  have hgB : g ≠ B := by omega
  have h1 : Pl W1 g ⟨c, m, v, q, s, n⟩ l := by rw [hW1]; exact Blk.alloc h _
  have HT : Hid (Tch g w W1) := hide (by rw [hW1]; exact Tch.of_below (below_alloc1 _ _))
  have c0 := h1.c0
  have c1 := h1.c1
  have c2 := h1.c2
  have c3 := h1.c3
  have c4 := h1.c4
  have c5 := h1.c5
  have c6 := h1.c6
  have b1 := kb.cell 1
  have b0 := kb.cell 0
  have f := Blk.free h1
  simp only at c0 c1 c2 c3 c4 c5 c6
  have HW := hide hW1
  have H := hide h1
  clear h h1 a1 a2 a3 a5 a6 a7 a8 hW1 kb hgl
  go_enter Try.func28, Try.ntmps28
  go_upto_region 1 with fail
  rw [← unhide HW]
  go_wp2
  go_ret
  exact ⟨rfl, (unhide H), (unhide HT)⟩
set_option maxRecDepth 100000 in
set_option maxHeartbeats 1000000 in
theorem do_1_same (w : World) (c m v q n l K k : Int) (s : Bool) (h : Pl w g ⟨c, m, v, q, s, n⟩ l) (hn : Nums c m v q n) (l0 : 0 ≤ l) (l1 : l ≤ c) (hK0 : 0 ≤ K) (hmd : K % 5 = 1) (hb : k = v) (hv : ¬ 1152921504606846976 < v) :
    Calls Try.prog 28 #[.pointer (some ⟨g, 0, none⟩), .agg #[.int .u8 K, .int .i64 k]] w fun e w' => e = .returned (.int .i64 0) ∧ Pl w' g ⟨c, m, v, q, s, n⟩ l ∧ Tch g w w' := by
  have e6 : K.tmod 5 = 1 := by rw [Int.tmod_eq_emod_of_nonneg hK0]; exact hmd
  obtain ⟨a1, a2, a3, a4, a5, a6, a7, a8⟩ := hn
  obtain ⟨B, hB⟩ : ∃ B, w.heap.size = B := ⟨_, rfl⟩
  obtain ⟨W1, hW1⟩ : ∃ W1, W1 = w.alloc (.cells #[.int .u8 K, .int .i64 k] 57) := ⟨_, rfl⟩
  have kb : Blk W1 B 57 #[.int .u8 K, .int .i64 k] := by rw [hW1]; exact Blk.new_at _ _ _ hB.symm
  have hgl := Blk.lt h
  have hgB : g ≠ B := by omega
  have h1 : Pl W1 g ⟨c, m, v, q, s, n⟩ l := by rw [hW1]; exact Blk.alloc h _
  have HT : Hid (Tch g w W1) := hide (by rw [hW1]; exact Tch.of_below (below_alloc1 _ _))
  have c0 := h1.c0
  have c1 := h1.c1
  have c2 := h1.c2
  have c3 := h1.c3
  have c4 := h1.c4
  have c5 := h1.c5
  have c6 := h1.c6
  have b1 := kb.cell 1
  have b0 := kb.cell 0
  have f := Blk.free h1
  simp only at c0 c1 c2 c3 c4 c5 c6
  subst hb
  have a9 : 0 ≤ k := a5
  have HW := hide hW1
  have H := hide h1
  clear h h1 a1 a2 a3 a5 a6 a7 a8 hW1 kb hgl
  go_enter Try.func28, Try.ntmps28
  go_upto_region 1 with fail
  rw [← unhide HW]
  go_wp2
  go_ret
  exact ⟨rfl, (unhide H).s2 k, (unhide HT).set 2 _⟩
set_option maxRecDepth 100000 in
set_option maxHeartbeats 1000000 in
theorem do_1_diff (w : World) (c m v q n l K k : Int) (s : Bool) (h : Pl w g ⟨c, m, v, q, s, n⟩ l) (hn : Nums c m v q n) (l0 : 0 ≤ l) (l1 : l ≤ c) (hK0 : 0 ≤ K) (hmd : K % 5 = 1) (hb : k ≠ v) (h0 : 0 ≤ k) (hv : k ≤ 1152921504606846976) :
    Calls Try.prog 28 #[.pointer (some ⟨g, 0, none⟩), .agg #[.int .u8 K, .int .i64 k]] w fun e w' => e = .returned (.int .i64 0) ∧ Pl w' g ⟨c, m, k, q, s, n + 1⟩ l ∧ Tch g w w' := by
  have e6 : K.tmod 5 = 1 := by rw [Int.tmod_eq_emod_of_nonneg hK0]; exact hmd
  obtain ⟨a1, a2, a3, a4, a5, a6, a7, a8⟩ := hn
  obtain ⟨B, hB⟩ : ∃ B, w.heap.size = B := ⟨_, rfl⟩
  obtain ⟨W1, hW1⟩ : ∃ W1, W1 = w.alloc (.cells #[.int .u8 K, .int .i64 k] 57) := ⟨_, rfl⟩
  have kb : Blk W1 B 57 #[.int .u8 K, .int .i64 k] := by rw [hW1]; exact Blk.new_at _ _ _ hB.symm
  have hgl := Blk.lt h
  have hgB : g ≠ B := by omega
  have h1 : Pl W1 g ⟨c, m, v, q, s, n⟩ l := by rw [hW1]; exact Blk.alloc h _
  have HT : Hid (Tch g w W1) := hide (by rw [hW1]; exact Tch.of_below (below_alloc1 _ _))
  have c0 := h1.c0
  have c1 := h1.c1
  have c2 := h1.c2
  have c3 := h1.c3
  have c4 := h1.c4
  have c5 := h1.c5
  have c6 := h1.c6
  have b1 := kb.cell 1
  have b0 := kb.cell 0
  have f := Blk.free h1
  simp only at c0 c1 c2 c3 c4 c5 c6
  have a9 : 0 ≤ n := a7
  have a10 : n ≤ 1000 := a8
  have hb1 : (k != v) = true := by simp [hb]
  have HW := hide hW1
  have H := hide h1
  clear h h1 a1 a2 a3 a5 a6 a7 a8 hW1 kb hgl
  go_enter Try.func28, Try.ntmps28
  go_upto_region 1 with fail
  rw [← unhide HW]
  go_wp2
  go_ret
  exact ⟨rfl, ((unhide H).s5 (n + 1)).s2 k, ((unhide HT).set 5 _).set 2 _⟩
set_option maxRecDepth 100000 in
set_option maxHeartbeats 1000000 in
theorem do_2_low (w : World) (c m v q n l K k : Int) (s : Bool) (h : Pl w g ⟨c, m, v, q, s, n⟩ l) (hn : Nums c m v q n) (l0 : 0 ≤ l) (l1 : l ≤ c) (hK0 : 0 ≤ K) (hmd : K % 5 = 2) (hb : k < -2305843009213693952) :
    Calls Try.prog 28 #[.pointer (some ⟨g, 0, none⟩), .agg #[.int .u8 K, .int .i64 k]] w fun e w' => e = .returned (.int .i64 2) ∧ Pl w' g ⟨c, m, v, q, s, n⟩ l ∧ Tch g w w' := by
  have e6 : K.tmod 5 = 2 := by rw [Int.tmod_eq_emod_of_nonneg hK0]; exact hmd
  obtain ⟨a1, a2, a3, a4, a5, a6, a7, a8⟩ := hn
  obtain ⟨B, hB⟩ : ∃ B, w.heap.size = B := ⟨_, rfl⟩
  obtain ⟨W1, hW1⟩ : ∃ W1, W1 = w.alloc (.cells #[.int .u8 K, .int .i64 k] 57) := ⟨_, rfl⟩
  have kb : Blk W1 B 57 #[.int .u8 K, .int .i64 k] := by rw [hW1]; exact Blk.new_at _ _ _ hB.symm
  have hgl := Blk.lt h
  have hgB : g ≠ B := by omega
  have h1 : Pl W1 g ⟨c, m, v, q, s, n⟩ l := by rw [hW1]; exact Blk.alloc h _
  have HT : Hid (Tch g w W1) := hide (by rw [hW1]; exact Tch.of_below (below_alloc1 _ _))
  have c0 := h1.c0
  have c1 := h1.c1
  have c2 := h1.c2
  have c3 := h1.c3
  have c4 := h1.c4
  have c5 := h1.c5
  have c6 := h1.c6
  have b1 := kb.cell 1
  have b0 := kb.cell 0
  have f := Blk.free h1
  simp only at c0 c1 c2 c3 c4 c5 c6
  have HW := hide hW1
  have H := hide h1
  clear h h1 a1 a2 a3 a5 a6 a7 a8 hW1 kb hgl
  go_enter Try.func28, Try.ntmps28
  go_upto_region 1 with fail
  rw [← unhide HW]
  go_wp2
  go_ret
  exact ⟨rfl, (unhide H), (unhide HT)⟩
set_option maxRecDepth 100000 in
set_option maxHeartbeats 1000000 in
theorem do_2_high (w : World) (c m v q n l K k : Int) (s : Bool) (h : Pl w g ⟨c, m, v, q, s, n⟩ l) (hn : Nums c m v q n) (l0 : 0 ≤ l) (l1 : l ≤ c) (hK0 : 0 ≤ K) (hmd : K % 5 = 2) (hb : 2305843009213693952 < k) :
    Calls Try.prog 28 #[.pointer (some ⟨g, 0, none⟩), .agg #[.int .u8 K, .int .i64 k]] w fun e w' => e = .returned (.int .i64 2) ∧ Pl w' g ⟨c, m, v, q, s, n⟩ l ∧ Tch g w w' := by
  have e6 : K.tmod 5 = 2 := by rw [Int.tmod_eq_emod_of_nonneg hK0]; exact hmd
  obtain ⟨a1, a2, a3, a4, a5, a6, a7, a8⟩ := hn
  obtain ⟨B, hB⟩ : ∃ B, w.heap.size = B := ⟨_, rfl⟩
  obtain ⟨W1, hW1⟩ : ∃ W1, W1 = w.alloc (.cells #[.int .u8 K, .int .i64 k] 57) := ⟨_, rfl⟩
  have kb : Blk W1 B 57 #[.int .u8 K, .int .i64 k] := by rw [hW1]; exact Blk.new_at _ _ _ hB.symm
  have hgl := Blk.lt h
  have hgB : g ≠ B := by omega
  have h1 : Pl W1 g ⟨c, m, v, q, s, n⟩ l := by rw [hW1]; exact Blk.alloc h _
  have HT : Hid (Tch g w W1) := hide (by rw [hW1]; exact Tch.of_below (below_alloc1 _ _))
  have c0 := h1.c0
  have c1 := h1.c1
  have c2 := h1.c2
  have c3 := h1.c3
  have c4 := h1.c4
  have c5 := h1.c5
  have c6 := h1.c6
  have b1 := kb.cell 1
  have b0 := kb.cell 0
  have f := Blk.free h1
  simp only at c0 c1 c2 c3 c4 c5 c6
  have HW := hide hW1
  have H := hide h1
  clear h h1 a1 a2 a3 a5 a6 a7 a8 hW1 kb hgl
  go_enter Try.func28, Try.ntmps28
  go_upto_region 1 with fail
  rw [← unhide HW]
  go_wp2
  go_ret
  exact ⟨rfl, (unhide H), (unhide HT)⟩
set_option maxRecDepth 100000 in
set_option maxHeartbeats 1000000 in
theorem do_2_neg (w : World) (c m v q n l K k : Int) (s : Bool) (h : Pl w g ⟨c, m, v, q, s, n⟩ l) (hn : Nums c m v q n) (l0 : 0 ≤ l) (l1 : l ≤ c) (hK0 : 0 ≤ K) (hmd : K % 5 = 2) (hb0 : -2305843009213693952 ≤ k) (hb1 : k ≤ 2305843009213693952) (hb : v + k < 0) :
    Calls Try.prog 28 #[.pointer (some ⟨g, 0, none⟩), .agg #[.int .u8 K, .int .i64 k]] w fun e w' => e = .returned (.int .i64 2) ∧ Pl w' g ⟨c, m, v, q, s, n⟩ l ∧ Tch g w w' := by
  have e6 : K.tmod 5 = 2 := by rw [Int.tmod_eq_emod_of_nonneg hK0]; exact hmd
  obtain ⟨a1, a2, a3, a4, a5, a6, a7, a8⟩ := hn
  obtain ⟨B, hB⟩ : ∃ B, w.heap.size = B := ⟨_, rfl⟩
  obtain ⟨W1, hW1⟩ : ∃ W1, W1 = w.alloc (.cells #[.int .u8 K, .int .i64 k] 57) := ⟨_, rfl⟩
  have kb : Blk W1 B 57 #[.int .u8 K, .int .i64 k] := by rw [hW1]; exact Blk.new_at _ _ _ hB.symm
  have hgl := Blk.lt h
  have hgB : g ≠ B := by omega
  have h1 : Pl W1 g ⟨c, m, v, q, s, n⟩ l := by rw [hW1]; exact Blk.alloc h _
  have HT : Hid (Tch g w W1) := hide (by rw [hW1]; exact Tch.of_below (below_alloc1 _ _))
  have c0 := h1.c0
  have c1 := h1.c1
  have c2 := h1.c2
  have c3 := h1.c3
  have c4 := h1.c4
  have c5 := h1.c5
  have c6 := h1.c6
  have b1 := kb.cell 1
  have b0 := kb.cell 0
  have f := Blk.free h1
  simp only at c0 c1 c2 c3 c4 c5 c6
  have x0 : 0 ≤ v := a5
  have x1 : v ≤ 2305843009213693952 := by omega
  have y1 : decide (k < -2305843009213693952) = false := decide_eq_false (by omega)
  have y2 : decide (2305843009213693952 < k) = false := decide_eq_false (by omega)
  have y3 : -2305843009213693952 ≤ k := by omega
  have y4 : k ≤ 2305843009213693952 := by omega
  have HW := hide hW1
  have H := hide h1
  clear h h1 a1 a2 a3 a5 a6 a7 a8 hW1 kb hgl
  go_enter Try.func28, Try.ntmps28
  go_upto_region 1 with fail
  rw [← unhide HW]
  go_wp2
  go_quiet (fail)
  go_wp2
  go_ret
  exact ⟨rfl, (unhide H), (unhide HT).drew _⟩
set_option maxRecDepth 100000 in
set_option maxHeartbeats 1000000 in
theorem do_2_big (w : World) (c m v q n l K k : Int) (s : Bool) (h : Pl w g ⟨c, m, v, q, s, n⟩ l) (hn : Nums c m v q n) (l0 : 0 ≤ l) (l1 : l ≤ c) (hK0 : 0 ≤ K) (hmd : K % 5 = 2) (hb0 : -2305843009213693952 ≤ k) (hb1 : k ≤ 2305843009213693952) (hb : 1152921504606846976 < v + k) :
    Calls Try.prog 28 #[.pointer (some ⟨g, 0, none⟩), .agg #[.int .u8 K, .int .i64 k]] w fun e w' => e = .returned (.int .i64 2) ∧ Pl w' g ⟨c, m, v, q, s, n⟩ l ∧ Tch g w w' := by
  have e6 : K.tmod 5 = 2 := by rw [Int.tmod_eq_emod_of_nonneg hK0]; exact hmd
  obtain ⟨a1, a2, a3, a4, a5, a6, a7, a8⟩ := hn
  obtain ⟨B, hB⟩ : ∃ B, w.heap.size = B := ⟨_, rfl⟩
  obtain ⟨W1, hW1⟩ : ∃ W1, W1 = w.alloc (.cells #[.int .u8 K, .int .i64 k] 57) := ⟨_, rfl⟩
  have kb : Blk W1 B 57 #[.int .u8 K, .int .i64 k] := by rw [hW1]; exact Blk.new_at _ _ _ hB.symm
  have hgl := Blk.lt h
  have hgB : g ≠ B := by omega
  have h1 : Pl W1 g ⟨c, m, v, q, s, n⟩ l := by rw [hW1]; exact Blk.alloc h _
  have HT : Hid (Tch g w W1) := hide (by rw [hW1]; exact Tch.of_below (below_alloc1 _ _))
  have c0 := h1.c0
  have c1 := h1.c1
  have c2 := h1.c2
  have c3 := h1.c3
  have c4 := h1.c4
  have c5 := h1.c5
  have c6 := h1.c6
  have b1 := kb.cell 1
  have b0 := kb.cell 0
  have f := Blk.free h1
  simp only at c0 c1 c2 c3 c4 c5 c6
  have x0 : 0 ≤ v := a5
  have x1 : v ≤ 2305843009213693952 := by omega
  have y1 : decide (k < -2305843009213693952) = false := decide_eq_false (by omega)
  have y2 : decide (2305843009213693952 < k) = false := decide_eq_false (by omega)
  have y3 : -2305843009213693952 ≤ k := by omega
  have y4 : k ≤ 2305843009213693952 := by omega
  have HW := hide hW1
  have H := hide h1
  clear h h1 a1 a2 a3 a5 a6 a7 a8 hW1 kb hgl
  go_enter Try.func28, Try.ntmps28
  go_upto_region 1 with fail
  rw [← unhide HW]
  go_wp2
  go_quiet (fail)
  go_wp2
  go_ret
  exact ⟨rfl, (unhide H), (unhide HT).drew _⟩
set_option maxRecDepth 100000 in
set_option maxHeartbeats 1000000 in
theorem do_2_same (w : World) (c m v q n l K k : Int) (s : Bool) (h : Pl w g ⟨c, m, v, q, s, n⟩ l) (hn : Nums c m v q n) (l0 : 0 ≤ l) (l1 : l ≤ c) (hK0 : 0 ≤ K) (hmd : K % 5 = 2) (hb : k = 0) (hv : ¬ 1152921504606846976 < v) :
    Calls Try.prog 28 #[.pointer (some ⟨g, 0, none⟩), .agg #[.int .u8 K, .int .i64 k]] w fun e w' => e = .returned (.int .i64 0) ∧ Pl w' g ⟨c, m, v, q, s, n⟩ l ∧ Tch g w w' := by
  have e6 : K.tmod 5 = 2 := by rw [Int.tmod_eq_emod_of_nonneg hK0]; exact hmd
  obtain ⟨a1, a2, a3, a4, a5, a6, a7, a8⟩ := hn
  obtain ⟨B, hB⟩ : ∃ B, w.heap.size = B := ⟨_, rfl⟩
  obtain ⟨W1, hW1⟩ : ∃ W1, W1 = w.alloc (.cells #[.int .u8 K, .int .i64 k] 57) := ⟨_, rfl⟩
  have kb : Blk W1 B 57 #[.int .u8 K, .int .i64 k] := by rw [hW1]; exact Blk.new_at _ _ _ hB.symm
  have hgl := Blk.lt h
  have hgB : g ≠ B := by omega
  have h1 : Pl W1 g ⟨c, m, v, q, s, n⟩ l := by rw [hW1]; exact Blk.alloc h _
  have HT : Hid (Tch g w W1) := hide (by rw [hW1]; exact Tch.of_below (below_alloc1 _ _))
  have c0 := h1.c0
  have c1 := h1.c1
  have c2 := h1.c2
  have c3 := h1.c3
  have c4 := h1.c4
  have c5 := h1.c5
  have c6 := h1.c6
  have b1 := kb.cell 1
  have b0 := kb.cell 0
  have f := Blk.free h1
  simp only at c0 c1 c2 c3 c4 c5 c6
  have x0 : 0 ≤ v := a5
  have x1 : v ≤ 2305843009213693952 := by omega
  subst hb
  have HW := hide hW1
  have H := hide h1
  clear h h1 a1 a2 a3 a5 a6 a7 a8 hW1 kb hgl
  go_enter Try.func28, Try.ntmps28
  go_upto_region 1 with fail
  rw [← unhide HW]
  go_wp2
  go_quiet (fail)
  go_wp2
  go_ret
  exact ⟨rfl, (unhide H).s2 v, ((unhide HT).drew _).set 2 _⟩
set_option maxRecDepth 100000 in
set_option maxHeartbeats 1000000 in
theorem do_2_diff (w : World) (c m v q n l K k : Int) (T : Int) (s : Bool) (h : Pl w g ⟨c, m, v, q, s, n⟩ l) (hn : Nums c m v q n) (l0 : 0 ≤ l) (l1 : l ≤ c) (hK0 : 0 ≤ K) (hmd : K % 5 = 2) (hT : v + k = T) (hb : T ≠ v) (h0 : 0 ≤ T) (hv : T ≤ 1152921504606846976) :
    Calls Try.prog 28 #[.pointer (some ⟨g, 0, none⟩), .agg #[.int .u8 K, .int .i64 k]] w fun e w' => e = .returned (.int .i64 0) ∧ Pl w' g ⟨c, m, T, q, s, n + 1⟩ l ∧ Tch g w w' := by
  have e6 : K.tmod 5 = 2 := by rw [Int.tmod_eq_emod_of_nonneg hK0]; exact hmd
  obtain ⟨a1, a2, a3, a4, a5, a6, a7, a8⟩ := hn
  obtain ⟨B, hB⟩ : ∃ B, w.heap.size = B := ⟨_, rfl⟩
  obtain ⟨W1, hW1⟩ : ∃ W1, W1 = w.alloc (.cells #[.int .u8 K, .int .i64 k] 57) := ⟨_, rfl⟩
  have kb : Blk W1 B 57 #[.int .u8 K, .int .i64 k] := by rw [hW1]; exact Blk.new_at _ _ _ hB.symm
  have hgl := Blk.lt h
  have hgB : g ≠ B := by omega
  have h1 : Pl W1 g ⟨c, m, v, q, s, n⟩ l := by rw [hW1]; exact Blk.alloc h _
  have HT : Hid (Tch g w W1) := hide (by rw [hW1]; exact Tch.of_below (below_alloc1 _ _))
  have c0 := h1.c0
  have c1 := h1.c1
  have c2 := h1.c2
  have c3 := h1.c3
  have c4 := h1.c4
  have c5 := h1.c5
  have c6 := h1.c6
  have b1 := kb.cell 1
  have b0 := kb.cell 0
  have f := Blk.free h1
  simp only at c0 c1 c2 c3 c4 c5 c6
  have x0 : 0 ≤ v := a5
  have x1 : v ≤ 2305843009213693952 := by omega
  have y1 : decide (k < -2305843009213693952) = false := decide_eq_false (by omega)
  have y2 : decide (2305843009213693952 < k) = false := decide_eq_false (by omega)
  have y3 : -2305843009213693952 ≤ k := by omega
  have y4 : k ≤ 2305843009213693952 := by omega
  have a9 : 0 ≤ n := a7
  have a10 : n ≤ 1000 := a8
  have hb1 : (T != v) = true := by simp [hb]
  have HW := hide hW1
  have H := hide h1
  clear h h1 a1 a2 a3 a5 a6 a7 a8 hW1 kb hgl
  go_enter Try.func28, Try.ntmps28
  go_upto_region 1 with fail
  rw [← unhide HW]
  go_wp2
  go_quiet (fail)
  go_wp2
  go_ret
  exact ⟨rfl, ((unhide H).s5 (n + 1)).s2 T, (((unhide HT).drew _).set 5 _).set 2 _⟩
set_option maxRecDepth 100000 in
set_option maxHeartbeats 1000000 in
theorem do_3_bad (w : World) (c m v q n l K k : Int) (h : Pl w g ⟨c, m, v, q, true, n⟩ l) (hn : Nums c m v q n) (l0 : 0 ≤ l) (l1 : l ≤ c) (hK0 : 0 ≤ K) (hmd : K % 5 = 3) :
    Calls Try.prog 28 #[.pointer (some ⟨g, 0, none⟩), .agg #[.int .u8 K, .int .i64 k]] w fun e w' => e = .returned (.int .i64 8) ∧ Pl w' g ⟨c, m, v, q, true, n⟩ l ∧ Tch g w w' := by
  have e6 : K.tmod 5 = 3 := by rw [Int.tmod_eq_emod_of_nonneg hK0]; exact hmd
  obtain ⟨a1, a2, a3, a4, a5, a6, a7, a8⟩ := hn
  obtain ⟨B, hB⟩ : ∃ B, w.heap.size = B := ⟨_, rfl⟩
  obtain ⟨W1, hW1⟩ : ∃ W1, W1 = w.alloc (.cells #[.int .u8 K, .int .i64 k] 57) := ⟨_, rfl⟩
  have kb : Blk W1 B 57 #[.int .u8 K, .int .i64 k] := by rw [hW1]; exact Blk.new_at _ _ _ hB.symm
  have hgl := Blk.lt h
  have hgB : g ≠ B := by omega
  have h1 : Pl W1 g ⟨c, m, v, q, true, n⟩ l := by rw [hW1]; exact Blk.alloc h _
  have HT : Hid (Tch g w W1) := hide (by rw [hW1]; exact Tch.of_below (below_alloc1 _ _))
  have c0 := h1.c0
  have c1 := h1.c1
  have c2 := h1.c2
  have c3 := h1.c3
  have c4 := h1.c4
  have c5 := h1.c5
  have c6 := h1.c6
  have b1 := kb.cell 1
  have b0 := kb.cell 0
  have f := Blk.free h1
  simp only at c0 c1 c2 c3 c4 c5 c6
  have HW := hide hW1
  have H := hide h1
  clear h h1 a1 a2 a3 a5 a6 a7 a8 hW1 kb hgl
  go_enter Try.func28, Try.ntmps28
  go_upto_region 1 with fail
  rw [← unhide HW]
  go_wp2
  go_ret
  exact ⟨rfl, (unhide H), (unhide HT)⟩
set_option maxRecDepth 100000 in
set_option maxHeartbeats 1000000 in
theorem do_3_ok (w : World) (c m v q n l K k : Int) (h : Pl w g ⟨c, m, v, q, false, n⟩ l) (hn : Nums c m v q n) (l0 : 0 ≤ l) (l1 : l ≤ c) (hK0 : 0 ≤ K) (hmd : K % 5 = 3) :
    Calls Try.prog 28 #[.pointer (some ⟨g, 0, none⟩), .agg #[.int .u8 K, .int .i64 k]] w fun e w' => e = .returned (.int .i64 0) ∧ Pl w' g ⟨c, m, v, q, true, n⟩ 0 ∧ Tch g w w' := by
  have e6 : K.tmod 5 = 3 := by rw [Int.tmod_eq_emod_of_nonneg hK0]; exact hmd
  obtain ⟨a1, a2, a3, a4, a5, a6, a7, a8⟩ := hn
  obtain ⟨B, hB⟩ : ∃ B, w.heap.size = B := ⟨_, rfl⟩
  obtain ⟨W1, hW1⟩ : ∃ W1, W1 = w.alloc (.cells #[.int .u8 K, .int .i64 k] 57) := ⟨_, rfl⟩
  have kb : Blk W1 B 57 #[.int .u8 K, .int .i64 k] := by rw [hW1]; exact Blk.new_at _ _ _ hB.symm
  have hgl := Blk.lt h
  have hgB : g ≠ B := by omega
  have h1 : Pl W1 g ⟨c, m, v, q, false, n⟩ l := by rw [hW1]; exact Blk.alloc h _
  have HT : Hid (Tch g w W1) := hide (by rw [hW1]; exact Tch.of_below (below_alloc1 _ _))
  have c0 := h1.c0
  have c1 := h1.c1
  have c2 := h1.c2
  have c3 := h1.c3
  have c4 := h1.c4
  have c5 := h1.c5
  have c6 := h1.c6
  have b1 := kb.cell 1
  have b0 := kb.cell 0
  have f := Blk.free h1
  simp only at c0 c1 c2 c3 c4 c5 c6
  have HW := hide hW1
  have H := hide h1
  clear h h1 a1 a2 a3 a5 a6 a7 a8 hW1 kb hgl
  go_enter Try.func28, Try.ntmps28
  go_upto_region 1 with fail
  rw [← unhide HW]
  go_wp2
  go_ret
  exact ⟨rfl, ((unhide H).s6 true).s4 0, ((unhide HT).set 6 _).set 4 _⟩
set_option maxRecDepth 100000 in
set_option maxHeartbeats 1000000 in
theorem do_4_bad (w : World) (c m v q n l K k : Int) (h : Pl w g ⟨c, m, v, q, false, n⟩ l) (hn : Nums c m v q n) (l0 : 0 ≤ l) (l1 : l ≤ c) (hK0 : 0 ≤ K) (hmd : K % 5 = 4) :
    Calls Try.prog 28 #[.pointer (some ⟨g, 0, none⟩), .agg #[.int .u8 K, .int .i64 k]] w fun e w' => e = .returned (.int .i64 8) ∧ Pl w' g ⟨c, m, v, q, false, n⟩ l ∧ Tch g w w' := by
  have e6 : K.tmod 5 = 4 := by rw [Int.tmod_eq_emod_of_nonneg hK0]; exact hmd
  obtain ⟨a1, a2, a3, a4, a5, a6, a7, a8⟩ := hn
  obtain ⟨B, hB⟩ : ∃ B, w.heap.size = B := ⟨_, rfl⟩
  obtain ⟨W1, hW1⟩ : ∃ W1, W1 = w.alloc (.cells #[.int .u8 K, .int .i64 k] 57) := ⟨_, rfl⟩
  have kb : Blk W1 B 57 #[.int .u8 K, .int .i64 k] := by rw [hW1]; exact Blk.new_at _ _ _ hB.symm
  have hgl := Blk.lt h
  have hgB : g ≠ B := by omega
  have h1 : Pl W1 g ⟨c, m, v, q, false, n⟩ l := by rw [hW1]; exact Blk.alloc h _
  have HT : Hid (Tch g w W1) := hide (by rw [hW1]; exact Tch.of_below (below_alloc1 _ _))
  have c0 := h1.c0
  have c1 := h1.c1
  have c2 := h1.c2
  have c3 := h1.c3
  have c4 := h1.c4
  have c5 := h1.c5
  have c6 := h1.c6
  have b1 := kb.cell 1
  have b0 := kb.cell 0
  have f := Blk.free h1
  simp only at c0 c1 c2 c3 c4 c5 c6
  have HW := hide hW1
  have H := hide h1
  clear h h1 a1 a2 a3 a5 a6 a7 a8 hW1 kb hgl
  go_enter Try.func28, Try.ntmps28
  go_upto_region 1 with fail
  rw [← unhide HW]
  go_wp2
  go_ret
  exact ⟨rfl, (unhide H), (unhide HT)⟩
set_option maxRecDepth 100000 in
set_option maxHeartbeats 1000000 in
theorem do_4_none (w : World) (c m v q n l K k : Int) (h : Pl w g ⟨c, m, v, q, true, n⟩ l) (hn : Nums c m v q n) (l0 : 0 ≤ l) (l1 : l ≤ c) (hK0 : 0 ≤ K) (hmd : K % 5 = 4) (hl : l = 0) :
    Calls Try.prog 28 #[.pointer (some ⟨g, 0, none⟩), .agg #[.int .u8 K, .int .i64 k]] w fun e w' => e = .returned (.int .i64 0) ∧ Pl w' g ⟨c, m, v, q, false, n⟩ l ∧ Tch g w w' := by
  have e6 : K.tmod 5 = 4 := by rw [Int.tmod_eq_emod_of_nonneg hK0]; exact hmd
  obtain ⟨a1, a2, a3, a4, a5, a6, a7, a8⟩ := hn
  obtain ⟨B, hB⟩ : ∃ B, w.heap.size = B := ⟨_, rfl⟩
  obtain ⟨W1, hW1⟩ : ∃ W1, W1 = w.alloc (.cells #[.int .u8 K, .int .i64 k] 57) := ⟨_, rfl⟩
  have kb : Blk W1 B 57 #[.int .u8 K, .int .i64 k] := by rw [hW1]; exact Blk.new_at _ _ _ hB.symm
  have hgl := Blk.lt h
  have hgB : g ≠ B := by omega
  have h1 : Pl W1 g ⟨c, m, v, q, true, n⟩ l := by rw [hW1]; exact Blk.alloc h _
  have HT : Hid (Tch g w W1) := hide (by rw [hW1]; exact Tch.of_below (below_alloc1 _ _))
  have c0 := h1.c0
  have c1 := h1.c1
  have c2 := h1.c2
  have c3 := h1.c3
  have c4 := h1.c4
  have c5 := h1.c5
  have c6 := h1.c6
  have b1 := kb.cell 1
  have b0 := kb.cell 0
  have f := Blk.free h1
  simp only at c0 c1 c2 c3 c4 c5 c6
  have x0 : 0 ≤ v := a5
  have x1 : v ≤ 2305843009213693952 := by omega
  have x2 : 0 ≤ q := by omega
  have x3 : q ≤ 1152921504606846976 := by omega
  have x4 : l ≤ 1152921504606846976 := by omega
  subst hl
  have HW := hide hW1
  have H := hide h1
  clear h h1 a1 a2 a3 a5 a6 a7 a8 hW1 kb hgl
  go_enter Try.func28, Try.ntmps28
  go_upto_region 1 with fail
  rw [← unhide HW]
  go_wp2
  go_region
  go_wp2
  go_ret
  exact ⟨rfl, (((unhide H).s6 false).s2 v).s3 q, ((((unhide HT).set 6 _).set 2 _).set 3 _).drew1⟩
set_option maxRecDepth 100000 in
set_option maxHeartbeats 1000000 in
theorem do_4_some (w : World) (c m v q n l K k : Int) (h : Pl w g ⟨c, m, v, q, true, n⟩ l) (hn : Nums c m v q n) (l0 : 0 ≤ l) (l1 : l ≤ c) (hK0 : 0 ≤ K) (hmd : K % 5 = 4) (hl : 0 < l) :
    Calls Try.prog 28 #[.pointer (some ⟨g, 0, none⟩), .agg #[.int .u8 K, .int .i64 k]] w fun e w' => e = .returned (.int .i64 0) ∧ Pl w' g ⟨c, m, v + l, q + l, false, n + 1⟩ l ∧ Tch g w w' := by
  have e6 : K.tmod 5 = 4 := by rw [Int.tmod_eq_emod_of_nonneg hK0]; exact hmd
  obtain ⟨a1, a2, a3, a4, a5, a6, a7, a8⟩ := hn
  obtain ⟨B, hB⟩ : ∃ B, w.heap.size = B := ⟨_, rfl⟩
  obtain ⟨W1, hW1⟩ : ∃ W1, W1 = w.alloc (.cells #[.int .u8 K, .int .i64 k] 57) := ⟨_, rfl⟩
  have kb : Blk W1 B 57 #[.int .u8 K, .int .i64 k] := by rw [hW1]; exact Blk.new_at _ _ _ hB.symm
  have hgl := Blk.lt h
  have hgB : g ≠ B := by omega
  have h1 : Pl W1 g ⟨c, m, v, q, true, n⟩ l := by rw [hW1]; exact Blk.alloc h _
  have HT : Hid (Tch g w W1) := hide (by rw [hW1]; exact Tch.of_below (below_alloc1 _ _))
  have c0 := h1.c0
  have c1 := h1.c1
  have c2 := h1.c2
  have c3 := h1.c3
  have c4 := h1.c4
  have c5 := h1.c5
  have c6 := h1.c6
  have b1 := kb.cell 1
  have b0 := kb.cell 0
  have f := Blk.free h1
  simp only at c0 c1 c2 c3 c4 c5 c6
  have x0 : 0 ≤ v := a5
  have x1 : v ≤ 2305843009213693952 := by omega
  have x2 : 0 ≤ q := by omega
  have x3 : q ≤ 1152921504606846976 := by omega
  have x4 : l ≤ 1152921504606846976 := by omega
  have a9 : 0 ≤ n := a7
  have a10 : n ≤ 1000 := a8
  have HW := hide hW1
  have H := hide h1
  clear h h1 a1 a2 a3 a5 a6 a7 a8 hW1 kb hgl
  go_enter Try.func28, Try.ntmps28
  go_upto_region 1 with fail
  rw [← unhide HW]
  go_wp2
  go_region
  go_wp2
  go_ret
  exact ⟨rfl, ((((unhide H).s6 false).s5 (n + 1)).s2 (v + l)).s3 (q + l), (((((unhide HT).set 6 _).set 5 _).set 2 _).set 3 _).drew1⟩
end
end Go.Proofs.Ytkglaklkbodjkaa
