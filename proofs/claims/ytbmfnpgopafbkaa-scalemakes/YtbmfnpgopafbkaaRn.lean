import Derived.Test.YtbmfnpgopafbkaaSc
import Derived.Test.YtbmfnpgopafbkaaRnMath
namespace Go.Proofs.Ytbmfnpgopafbkaa
open Go.RowKit Kt

/-- A row of whole numbers that the call owns, in block g. -/
def IRow (w : World) (B g n cap : Nat) (ds : List Int) : Prop := ds.length = n ∧ w.ownsRow B 3 1 (.slice (some ⟨g, 0, none⟩) n cap) n (ds.map (Value.int .i64))
theorem IRow.cell {w : World} {B g n cap : Nat} {ds : List Int} (h : IRow w B g n cap ds) (j : Nat) (hj : j < n) : w.cell? ⟨g, j, none⟩ = some (.int .i64 (ds.getD j 0)) := by
  have := h.2.cellAt j (by omega)
  rw [this, List.getElem?_map]
  have hl := h.1
  simp [List.getD, List.getElem?_eq_getElem (show j < ds.length by omega)]
theorem IRow.free {w : World} {B g n cap : Nat} {ds : List Int} (h : IRow w B g n cap ds) (j : Nat) : w.frozen? ⟨g, j, none⟩ = false := h.2.frozenAt j
theorem IRow.put {w : World} {B g n cap : Nat} {ds : List Int} (h : IRow w B g n cap ds) (j : Nat) (x : Int) : IRow (w.setCell ⟨g, j, none⟩ (.int .i64 x)) B g n cap (ds.set j x) := by
  refine ⟨by simp [h.1], ?_⟩
  have := (h.2.stored j (.int .i64 x)).1
  rw [List.map_set]; exact this
theorem IRow.base {w : World} {B g n cap : Nat} {ds : List Int} (h : IRow w B g n cap ds) : B ≤ g ∧ g < w.heap.size := h.2.lt g rfl

theorem IRow.lit (w : World) (B n : Nat) (ds : List Int) (hl : ds.length = n) (hb : B ≤ w.heap.size) (hm : n ≤ maxLen) :
    IRow (w.alloc (.cells (ds.map (Value.int .i64)).toArray 3)) B w.heap.size n n ds := by
  refine ⟨hl, ?_⟩
  have := World.ownsRow_lit (base := B) (e := 3) (size := 1) w (ds.map (Value.int .i64)).toArray n hb hm (by simp [hl])
  exact this
theorem digit_shift (a : Int) (i : Nat) (a0 : 0 ≤ a) : (a / 2 ^ (16 * i)).tmod 65536 = a / 65536 ^ i % 65536 := by
  have e : (2 : Int) ^ (16 * i) = 65536 ^ i := by rw [Int.pow_mul]; rfl
  rw [e]
  have : (0 : Int) < 65536 ^ i := Int.pow_pos (by omega)
  exact Int.tmod_eq_emod_of_nonneg (Int.ediv_nonneg a0 (by omega))

set_option maxRecDepth 100000 in
set_option maxHeartbeats 1000000 in
theorem rprod_any (a b : Int) (w : World) (a0 : 0 ≤ a) (a1 : a ≤ 4294967295) (b0 : 0 ≤ b) (b1 : b ≤ 4611686018427387903) :
    Calls Try.prog 35 #[.int .i64 a, .int .i64 b] w fun e w' => ∃ ds, e = .returned (.slice (some ⟨w.heap.size, 0, none⟩) 9 9) ∧ IRow w' w.heap.size w.heap.size 9 9 ds ∧ Dig 9 ds ∧ val ds = a * b ∧ Below w.heap.size w w' := by
  have hmk : ∀ w, (Instr.makeSlice 48 (.int .i64 9) (.int .i64 9)).run Try.prog w = .ok (.slice (some ⟨w.heap.size, 0, none⟩) 9 9) (w.alloc (.cells #[.int .i64 0, .int .i64 0, .int .i64 0, .int .i64 0, .int .i64 0, .int .i64 0, .int .i64 0, .int .i64 0, .int .i64 0] 3)) := fun _ => by kernel_rfl
  obtain ⟨g, hg⟩ : ∃ g, w.heap.size = g := ⟨_, rfl⟩
  go_enter Try.func35, Try.ntmps35
  go_wp2
  go_loopw [6] (fun t6 wr => ∃ (i : Nat) (ds : List Int), i ≤ 4 ∧ t6 = .int .i64 i ∧ IRow wr g g 9 9 ds ∧ Below g w wr ∧ Hid (Outer a b i ds)) (fun t6 _ => 4 - (intOf t6).toNat)
  case atStart =>
    have h := IRow.lit w g 9 [0, 0, 0, 0, 0, 0, 0, 0, 0] rfl (by omega) (by unfold maxLen; omega)
    rw [hg] at h
    exact ⟨0, [0, 0, 0, 0, 0, 0, 0, 0, 0], by omega, rfl, h, (Below.refl _ _).alloc (by omega) _, hide (Outer.first a b)⟩
  case round =>
    obtain ⟨i, ds, hi, rfl, hrow, hbel, hout⟩ := hrel
    obtain ⟨wo, rfl⟩ : ∃ wo : World, wo = wr := ⟨_, rfl⟩
    by_cases hlt : i < 4
    · go_wp2
      go_loopw [7, 8] (fun t7 t8 wr => ∃ (k : Nat) (c : Int) (es : List Int), k ≤ 4 ∧ t7 = .int .i64 c ∧ t8 = .int .i64 k ∧ IRow wr g g 9 9 es ∧ Below g w wr ∧ Hid (Inner (low a i * b) (a / 65536 ^ i % 65536) b i k c es)) (fun _ t8 _ => 4 - (intOf t8).toNat)
      case atStart => exact ⟨0, 0, ds, by omega, rfl, rfl, hrow, hbel, hide (unhide hout).start⟩
      case round =>
        obtain ⟨k, c, es, hk, rfl, rfl, hrow2, hbel2, hin⟩ := hrel
        by_cases hlt2 : k < 4
        · have hcell := hrow2.cell (i + k) (by omega)
          have hfree := hrow2.free (i + k)
          have ex := digit_shift a i a0
          have ey := digit_shift b k b0
          have H := unhide hin
          have hd := H.dig.2 (i + k)
          have hc0 := H.c0
          have hc1 := H.c1
          have hbd := digit_bound (es.getD (i + k) 0) (a / 65536 ^ i % 65536) (b / 65536 ^ k % 65536) c hd (by omega) (by omega) ⟨hc0, hc1⟩
          have hstep := fun t ht => H.step hlt hlt2 (by omega) t ht
          have HS := hide hstep
          clear hstep H
          obtain ⟨X, hX⟩ : ∃ X, a / 65536 ^ i % 65536 = X := ⟨_, rfl⟩
          obtain ⟨y, hy⟩ : ∃ y, b / 65536 ^ k % 65536 = y := ⟨_, rfl⟩
          obtain ⟨d, hd'⟩ : ∃ d, es.getD (i + k) 0 = d := ⟨_, rfl⟩
          obtain ⟨m, hm⟩ : ∃ m, X * y = m := ⟨_, rfl⟩
          rw [hX] at ex hbd HS
          rw [hy] at ey hbd HS
          rw [hd'] at hcell hd hbd HS
          rw [hm] at hbd HS
          clear hd'
          have e4 : (d + m + c).tdiv 65536 = (d + m + c) / 65536 := Int.tdiv_eq_ediv_of_nonneg hbd.2.2.1
          have e5 : (d + m + c).tmod 65536 = (d + m + c) % 65536 := Int.tmod_eq_emod_of_nonneg hbd.2.2.1
          have HX := hide hX
          clear hX hy
          go_wp2
          go_roundw
          case rel =>
            have hs := unhide HS _ rfl
            rw [← unhide HX] at hs
            exact ⟨k + 1, (d + m + c) / 65536, _, by omega, rfl, by go_num, hrow2.put _ _, hbel2.setCell (Nat.le_refl _) _, hide hs⟩
          case measure => simp [intOf]; omega
        · obtain rfl : k = 4 := by omega
          have hcell := hrow2.cell (i + 4) (by omega)
          have hfree := hrow2.free (i + 4)
          have H := unhide hin
          have hz := H.zero (i + 4) (Nat.le_refl _)
          have hcl := hide (H.close hlt b0 (by omega))
          have hc0 := H.c0
          have hc1 := H.c1
          rw [hz] at hcell hcl
          rw [Int.zero_add] at hcl
          clear H hz
          go_wp2
          go_roundw
          case rel => exact ⟨i + 1, _, by omega, by go_num, hrow2.put _ _, hbel2.setCell (Nat.le_refl _) _, hcl⟩
          case measure => simp [intOf]; omega
    · obtain rfl : i = 4 := by omega
      go_wp2
      go_ret
      rw [hg]
      have H := unhide hout
      exact ⟨ds, rfl, hrow, H.dig, H.done a0 (by omega), hbel⟩
end Go.Proofs.Ytbmfnpgopafbkaa
