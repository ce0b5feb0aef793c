/- What a call tells of each of the clocks. -/
import Derived.Test.YtjjdkkdnlnbedaaGreatEn1
import Derived.BigRegion
namespace Go.Proofs.YtjjdkkdnlnbedaaGreat
open Go.RowKit Kt Qu
set_option linter.unusedVariables false

theorem below_set {B : Nat} {w w' : World} (h : Below B w w') {g : Nat} (hg : B ≤ g) (j : Nat) (v : Value) : Below B w (w'.setCell ⟨g, j, none⟩ v) :=
  ⟨h.os, h.tape, h.output, by simpa using h.size, fun i hi => (Below.heap_setCell w' ⟨g, j, none⟩ v i (by show i ≠ g; omega)).trans (h.block i hi)⟩
/-- What has been told ahead of clock k. -/
def tol (f0 f1 f2 : Int) (k : Nat) : Array Value := #[.int .i64 (if 0 < k then f0 else 0), .int .i64 (if 1 < k then f1 else 0), .int .i64 (if 2 < k then f2 else 0)]
structure OJ (C : Nat) (w w' : World) (f0 f1 f2 : Int) (k : Nat) : Prop where
  low : Below C w w'
  k0 : Blk w' C 75 #[.int .i64 0, .int .i64 0, .int .i64 0]
  k1 : Blk w' (C + 1) 75 (tol f0 f1 f2 k)
set_option maxRecDepth 20000 in
set_option maxHeartbeats 1000000 in
theorem ofclocks_any (F : Nat) (c : Nat) (f0 f1 f2 : Int) (w : World)
    (eg : ∀ (args : Array Value) (w : World), (callFunc F args).run Tryz.prog w = .ok (.enter F args) w)
    (hs : ∀ w' (k f : Int), (k = 0 ∧ f = f0 ∨ k = 1 ∧ f = f1 ∨ k = 2 ∧ f = f2) → Below w.heap.size w w' → Calls Tryz.prog F #[.pointer (some ⟨c, 0, none⟩), .int .i64 k] w' fun e w2 => e = .returned (.tuple #[.int .i64 f, .bool true]) ∧ w2 = w') :
    Calls Tryz.prog 73 #[.func (.func F) #[.pointer (some ⟨c, 0, none⟩)] #[]] w fun e w' => e = .returned (.agg #[.int .i64 f0, .int .i64 f1, .int .i64 f2]) ∧ Below w.heap.size w w' := by
  obtain ⟨C, hC⟩ : ∃ C, w.heap.size = C := ⟨_, rfl⟩
  obtain ⟨W1, hW1⟩ : ∃ W1, W1 = w.alloc (.cells #[.int .i64 0, .int .i64 0, .int .i64 0] 75) := ⟨_, rfl⟩
  obtain ⟨W2, hW2⟩ : ∃ W2, W2 = W1.alloc (.cells #[.int .i64 0, .int .i64 0, .int .i64 0] 75) := ⟨_, rfl⟩
  have s1 : W1.heap.size = C + 1 := by rw [hW1, ← hC]; simp
  have b1 : Below C w W1 := by rw [hW1, ← hC]; exact one_below _ _
  have b2 : Below W1.heap.size W1 W2 := by rw [hW2]; exact one_below _ _
  have k1 : Blk W1 C 75 #[.int .i64 0, .int .i64 0, .int .i64 0] := by rw [hW1]; exact Blk.new_at _ _ _ hC.symm
  have k2 : Blk W2 (C + 1) 75 #[.int .i64 0, .int .i64 0, .int .i64 0] := by rw [hW2]; exact Blk.new_at _ _ _ s1.symm
  have J0 : OJ C w W2 f0 f1 f2 0 := ⟨b1.trans (b2.mono (by omega)), k1.below b2 k1.lt, k2⟩
  have HS := hide hs
  have H0 := hide J0
  rw [hW1] at hW2
  have HW := hide hW2
  rw [hC]
  clear hs hW1 hW2 s1 b1 b2 k1 k2 J0
  go_enter Tryz.func73, Tryz.ntmps73
  go_wp2_with fail
  rw [← unhide HW]
  clear HW
  go_loopw [5] (fun d w' => ∃ k : Int, d = .int .i64 k ∧ (0 ≤ k ∧ k ≤ 3) ∧ Hid (OJ C w w' f0 f1 f2 k.toNat)) (fun d _ => 3 - (intOf d).toNat)
  case atStart => exact ⟨0, rfl, by omega, H0⟩
  case round =>
    obtain ⟨k, rfl, hk, HK⟩ := hrel
    have q0 := blkAt (unhide HK).k1 0 _ rfl
    have q1 := blkAt (unhide HK).k1 1 _ rfl
    have q2 := blkAt (unhide HK).k1 2 _ rfl
    have hf := (unhide HK).k1.free
    by_cases hlt : k < 3
    · rcases (show k = 0 ∨ k = 1 ∨ k = 2 by omega) with rfl | rfl | rfl
      · have CS := hide ((unhide HS) wr 0 f0 (.inl ⟨rfl, rfl⟩) (hC ▸ (unhide HK).low))
        go_wp2_with (show Calls Tryz.prog F _ _ _; refine (unhide CS).mono ?_; rintro e w1 ⟨rfl, rfl⟩)
        go_roundw
        case rel => exact ⟨1, by first | rfl | go_num, by omega, hide ⟨below_set (unhide HK).low (by omega) _ _, (unhide HK).k0.other (by omega) _ _, (unhide HK).k1.put 0 _⟩⟩
        case measure => simp [intOf]
      · have CS := hide ((unhide HS) wr 1 f1 (.inr (.inl ⟨rfl, rfl⟩)) (hC ▸ (unhide HK).low))
        go_wp2_with (show Calls Tryz.prog F _ _ _; refine (unhide CS).mono ?_; rintro e w1 ⟨rfl, rfl⟩)
        go_roundw
        case rel => exact ⟨2, by first | rfl | go_num, by omega, hide ⟨below_set (unhide HK).low (by omega) _ _, (unhide HK).k0.other (by omega) _ _, (unhide HK).k1.put 1 _⟩⟩
        case measure => simp [intOf]
      · have CS := hide ((unhide HS) wr 2 f2 (.inr (.inr ⟨rfl, rfl⟩)) (hC ▸ (unhide HK).low))
        go_wp2_with (show Calls Tryz.prog F _ _ _; refine (unhide CS).mono ?_; rintro e w1 ⟨rfl, rfl⟩)
        go_roundw
        case rel => exact ⟨3, by first | rfl | go_num, by omega, hide ⟨below_set (unhide HK).low (by omega) _ _, (unhide HK).k0.other (by omega) _ _, (unhide HK).k1.put 2 _⟩⟩
        case measure => simp [intOf]
    · obtain rfl : k = 3 := by omega
      clear q0 q1 q2
      have q0 : wr.cell? ⟨C + 1, 0, none⟩ = some (.int .i64 f0) := blkAt (unhide HK).k1 0 _ rfl
      have q1 : wr.cell? ⟨C + 1, 1, none⟩ = some (.int .i64 f1) := blkAt (unhide HK).k1 1 _ rfl
      have q2 : wr.cell? ⟨C + 1, 2, none⟩ = some (.int .i64 f2) := blkAt (unhide HK).k1 2 _ rfl
      have hz := (unhide HK).k0.free
      have z0 : wr.cell? ⟨C, 0, none⟩ = some (.int .i64 0) := blkAt (unhide HK).k0 0 _ rfl
      have z1 : wr.cell? ⟨C, 1, none⟩ = some (.int .i64 0) := blkAt (unhide HK).k0 1 _ rfl
      have z2 : wr.cell? ⟨C, 2, none⟩ = some (.int .i64 0) := blkAt (unhide HK).k0 2 _ rfl
      have kF := ((((unhide HK).k0.put 0 (.int .i64 f0)).put 1 (.int .i64 f1)).put 2 (.int .i64 f2))
      have x0 := blkAt kF 0 (.int .i64 f0) rfl
      have x1 := blkAt kF 1 (.int .i64 f1) rfl
      have x2 := blkAt kF 2 (.int .i64 f2) rfl
      clear kF
      go_wp2_with fail
      (try simp only [Exit.inBlock, Exit.then])
      refine bodyPost_ret (v := .agg #[.int .i64 f0, .int .i64 f1, .int .i64 f2]) ?hr rfl ?_
      case hr => simp [results, Tryz.results73, go_sem, x0, x1, x2]
      exact ⟨rfl, below_set (below_set (below_set (unhide HK).low (by omega) _ _) (by omega) _ _) (by omega) _ _⟩
end Go.Proofs.YtjjdkkdnlnbedaaGreat
