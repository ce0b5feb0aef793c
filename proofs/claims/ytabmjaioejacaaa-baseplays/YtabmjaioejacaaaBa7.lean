/- A base's Next and Due: the whole calls. -/
import Derived.Test.YtabmjaioejacaaaBa5
import Derived.Test.YtabmjaioejacaaaBa6
namespace Go.Proofs.Ytabmjaioejacaaa
open Go.RowKit Kt Qu
set_option linter.unusedVariables false

def tri (f0 f1 f2 : Int) (k : Nat) : Int := if k = 0 then f0 else if k = 1 then f1 else f2
theorem tri_at (f0 f1 f2 : Int) {k : Nat} (h : k < 3) : k = 0 ∧ tri f0 f1 f2 k = f0 ∨ k = 1 ∧ tri f0 f1 f2 k = f1 ∨ k = 2 ∧ tri f0 f1 f2 k = f2 := by
  rcases (show k = 0 ∨ k = 1 ∨ k = 2 by omega) with rfl | rfl | rfl
  · exact .inl ⟨rfl, rfl⟩
  · exact .inr (.inl ⟨rfl, rfl⟩)
  · exact .inr (.inr ⟨rfl, rfl⟩)
/-- What Next has reckoned ahead of row i. -/
def nxF (R : Rows6) (f : Nat → Int) (lz : Bool) : Nat → Int
  | 0 => 4611686018427387903
  | i + 1 => nx1 (R i) lz (decide (i % 2 = 1)) (f (i / 2)) (nxF R f lz i)
/-- What Due has found ahead of row i. -/
def duF (R : Rows6) (f : Nat → Int) (lz : Bool) : Nat → Bool
  | 0 => false
  | i + 1 => du1 (R i) lz (decide (i % 2 = 1)) (f (i / 2)) (duF R f lz i)
section
variable {w w' : World} {b n : Nat} {P : Nat → Option Qa} {R : Rows6}
set_option maxRecDepth 20000 in
set_option maxHeartbeats 1000000 in
theorem bnext (h : Bs w b n P R) (f0 f1 f2 : Int) (lz : Bool) : Calls Try.prog 17 #[.pointer (some ⟨b, 0, none⟩), .agg #[.int .i64 f0, .int .i64 f1, .int .i64 f2], .bool lz] w fun e w' => e = .returned (.int .i64 (nxF R (tri f0 f1 f2) lz 6)) ∧ Below w.heap.size w w' := by
  obtain ⟨C, hC⟩ : ∃ C, w.heap.size = C := ⟨_, rfl⟩
  obtain ⟨W1, hW1⟩ : ∃ W1, W1 = w.alloc (.cells #[.int .i64 f0, .int .i64 f1, .int .i64 f2] 23) := ⟨_, rfl⟩
  obtain ⟨W2, hW2⟩ : ∃ W2, W2 = W1.alloc (.cells #[.bool lz] 4) := ⟨_, rfl⟩
  obtain ⟨W3, hW3⟩ : ∃ W3, W3 = W2.alloc (.cells #[.int .i64 4611686018427387903] 3) := ⟨_, rfl⟩
  have s1 : W1.heap.size = C + 1 := by rw [hW1, ← hC]; simp
  have s2 : W2.heap.size = C + 2 := by rw [hW2]; simp [s1]
  have b1 : Below C w W1 := by rw [hW1, ← hC]; exact one_below _ _
  have b2 : Below W1.heap.size W1 W2 := by rw [hW2]; exact one_below _ _
  have b3 : Below W2.heap.size W2 W3 := by rw [hW3]; exact one_below _ _
  have k1 : Blk W1 C 23 #[.int .i64 f0, .int .i64 f1, .int .i64 f2] := by rw [hW1]; exact Blk.new_at _ _ _ hC.symm
  have k2 : Blk W2 (C + 1) 4 #[.bool lz] := by rw [hW2]; exact Blk.new_at _ _ _ s1.symm
  have k3 : Blk W3 (C + 2) 3 #[.int .i64 4611686018427387903] := by rw [hW3]; exact Blk.new_at _ _ _ s2.symm
  have k1' := k1.below b2 k1.lt
  have CE := hide (each_any b (pv (P 0)) (pv (P 1)) (pv (P 2)) (pv (P 3)) (pv (P 4)) (pv (P 5)) 36 #[.pointer (some ⟨C + 1, 0, none⟩), .pointer (some ⟨C + 2, 0, none⟩), .pointer (some ⟨C, 0, none⟩)]
    (fun i w' => Below C w w' ∧ Blk w' C 23 #[.int .i64 f0, .int .i64 f1, .int .i64 f2] ∧ Blk w' (C + 1) 4 #[.bool lz] ∧ Blk w' (C + 2) 3 #[.int .i64 (nxF R (tri f0 f1 f2) lz i)]) W3 (fun _ _ => rfl)
    (fun i w' hJ => (h.below (hC ▸ hJ.1)).blk)
    (fun i w' k l c hi hJ hk hl hc => by
      rw [bcs_at P hi hc, hk, hl]
      exact nextclo _ _ _ w w' C ((h.below (hC ▸ hJ.1)).q i hi) f0 f1 f2 lz _ _ (i / 2) _ (tri_at f0 f1 f2 (by omega)) hJ.2.1 hJ.2.2.1 hJ.2.2.2 hJ.1)
    ⟨(b1.trans (b2.mono (by omega))).trans (b3.mono (by omega)), k1'.below b3 k1'.lt, k2.below b3 k2.lt, k3⟩)
  generalize nxF R (tri f0 f1 f2) lz 6 = r at *
  rw [hW2, hW1] at hW3
  have HW := hide hW3
  clear hW1 hW2 hW3 b1 b2 b3 k1 k2 k3 k1' h s1 s2
  rw [hC]
  go_enter Try.func17, Try.ntmps17
  go_wp2_with (go_at_call 21; refine Hid.out ?_)
  refine hide ?_
  rw [← unhide HW]
  refine (unhide CE).mono ?_
  rintro e w3 ⟨rfl, hl, -, -, k1⟩
  have c1 := blkAt k1 0 (.int .i64 r) rfl
  have HL := hide hl
  clear hl k1 CE HW
  go_wp2
  go_ret
  exact ⟨rfl, unhide HL⟩
theorem next_nil (w : World) (f0 f1 f2 : Int) (lz : Bool) : Calls Try.prog 17 #[.pointer none, .agg #[.int .i64 f0, .int .i64 f1, .int .i64 f2], .bool lz] w fun e w' => e = .returned (.int .i64 4611686018427387903) ∧ Below w.heap.size w w' := by
  obtain ⟨C, hC⟩ : ∃ C, w.heap.size = C := ⟨_, rfl⟩
  obtain ⟨W1, hW1⟩ : ∃ W1, W1 = w.alloc (.cells #[.int .i64 f0, .int .i64 f1, .int .i64 f2] 23) := ⟨_, rfl⟩
  obtain ⟨W2, hW2⟩ : ∃ W2, W2 = W1.alloc (.cells #[.bool lz] 4) := ⟨_, rfl⟩
  obtain ⟨W3, hW3⟩ : ∃ W3, W3 = W2.alloc (.cells #[.int .i64 4611686018427387903] 3) := ⟨_, rfl⟩
  have s1 : W1.heap.size = C + 1 := by rw [hW1, ← hC]; simp
  have s2 : W2.heap.size = C + 2 := by rw [hW2]; simp [s1]
  have b1 : Below C w W1 := by rw [hW1, ← hC]; exact one_below _ _
  have b2 : Below W1.heap.size W1 W2 := by rw [hW2]; exact one_below _ _
  have b3 : Below W2.heap.size W2 W3 := by rw [hW3]; exact one_below _ _
  have k3 : Blk W3 (C + 2) 3 #[.int .i64 4611686018427387903] := by rw [hW3]; exact Blk.new_at _ _ _ s2.symm
  have HL := hide ((b1.trans (b2.mono (by omega))).trans (b3.mono (by omega)))
  have c1 := blkAt k3 0 (.int .i64 4611686018427387903) rfl
  rw [hW3, hW2, hW1] at c1 HL
  clear hW1 hW2 hW3 b1 b2 b3 k3 s1 s2
  rw [hC]
  go_enter Try.func17, Try.ntmps17
  go_wp2_with (go_at_call 21; refine (each_nil _ _).mono ?_; rintro e w3 ⟨rfl, rfl⟩)
  go_ret
  exact ⟨rfl, unhide HL⟩
set_option maxRecDepth 20000 in
set_option maxHeartbeats 1000000 in
theorem bdue (h : Bs w b n P R) (f0 f1 f2 : Int) (lz : Bool) : Calls Try.prog 11 #[.pointer (some ⟨b, 0, none⟩), .agg #[.int .i64 f0, .int .i64 f1, .int .i64 f2], .bool lz] w fun e w' => e = .returned (.bool (duF R (tri f0 f1 f2) lz 6)) ∧ Below w.heap.size w w' := by
  obtain ⟨C, hC⟩ : ∃ C, w.heap.size = C := ⟨_, rfl⟩
  obtain ⟨W1, hW1⟩ : ∃ W1, W1 = w.alloc (.cells #[.int .i64 f0, .int .i64 f1, .int .i64 f2] 23) := ⟨_, rfl⟩
  obtain ⟨W2, hW2⟩ : ∃ W2, W2 = W1.alloc (.cells #[.bool lz] 4) := ⟨_, rfl⟩
  obtain ⟨W3, hW3⟩ : ∃ W3, W3 = W2.alloc (.cells #[.bool false] 4) := ⟨_, rfl⟩
  have s1 : W1.heap.size = C + 1 := by rw [hW1, ← hC]; simp
  have s2 : W2.heap.size = C + 2 := by rw [hW2]; simp [s1]
  have b1 : Below C w W1 := by rw [hW1, ← hC]; exact one_below _ _
  have b2 : Below W1.heap.size W1 W2 := by rw [hW2]; exact one_below _ _
  have b3 : Below W2.heap.size W2 W3 := by rw [hW3]; exact one_below _ _
  have k1 : Blk W1 C 23 #[.int .i64 f0, .int .i64 f1, .int .i64 f2] := by rw [hW1]; exact Blk.new_at _ _ _ hC.symm
  have k2 : Blk W2 (C + 1) 4 #[.bool lz] := by rw [hW2]; exact Blk.new_at _ _ _ s1.symm
  have k3 : Blk W3 (C + 2) 4 #[.bool false] := by rw [hW3]; exact Blk.new_at _ _ _ s2.symm
  have k1' := k1.below b2 k1.lt
  have CE := hide (each_any b (pv (P 0)) (pv (P 1)) (pv (P 2)) (pv (P 3)) (pv (P 4)) (pv (P 5)) 25 #[.pointer (some ⟨C + 1, 0, none⟩), .pointer (some ⟨C, 0, none⟩), .pointer (some ⟨C + 2, 0, none⟩)]
    (fun i w' => Below C w w' ∧ Blk w' C 23 #[.int .i64 f0, .int .i64 f1, .int .i64 f2] ∧ Blk w' (C + 1) 4 #[.bool lz] ∧ Blk w' (C + 2) 4 #[.bool (duF R (tri f0 f1 f2) lz i)]) W3 (fun _ _ => rfl)
    (fun i w' hJ => (h.below (hC ▸ hJ.1)).blk)
    (fun i w' k l c hi hJ hk hl hc => by
      rw [bcs_at P hi hc, hk, hl]
      exact dueclo _ _ _ w w' C ((h.below (hC ▸ hJ.1)).q i hi) f0 f1 f2 lz _ _ (i / 2) _ (tri_at f0 f1 f2 (by omega)) hJ.2.1 hJ.2.2.1 hJ.2.2.2 hJ.1)
    ⟨(b1.trans (b2.mono (by omega))).trans (b3.mono (by omega)), k1'.below b3 k1'.lt, k2.below b3 k2.lt, k3⟩)
  generalize duF R (tri f0 f1 f2) lz 6 = r at *
  rw [hW2, hW1] at hW3
  have HW := hide hW3
  clear hW1 hW2 hW3 b1 b2 b3 k1 k2 k3 k1' h s1 s2
  rw [hC]
  go_enter Try.func11, Try.ntmps11
  go_wp2_with (go_at_call 21; refine Hid.out ?_)
  refine hide ?_
  rw [← unhide HW]
  refine (unhide CE).mono ?_
  rintro e w3 ⟨rfl, hl, -, -, k1⟩
  have c1 := blkAt k1 0 (.bool r) rfl
  have HL := hide hl
  clear hl k1 CE HW
  go_wp2
  go_ret
  exact ⟨rfl, unhide HL⟩
end
end Go.Proofs.Ytabmjaioejacaaa
