import Derived.Test.YtjjdkkdnlnbedaaGreatL15Keeps
import Derived.Test.YtjjdkkdnlnbedaaGreatFlt
namespace Go.Proofs.YtjjdkkdnlnbedaaGreat
open Go.RowKit Kt Qu

theorem lkeeps_row (A : Int) (wA : (Lit.int .u8 A).wf = true) (p : Option Addr) (len cap : Nat) (V : Nat → Nat → Value) (w : World) (h : SRow 8 w p len cap V)
    (hl : ∀ i, i < cap → ∀ j l, j < 8 → leafAt Tryz.prog 8 37 j = some l → l.is (V i j)) :
    Calls Tryz.prog 5 #[.int .u8 A, .slice p len cap] w fun e w' => e = .returned (.bool true) ∧ Below w.heap.size w w' := by
  have bA : 0 ≤ A ∧ A ≤ 255 := by
    simp [Lit.wf, IntKind.min, IntKind.max, IntKind.signed, IntKind.bits] at wA
    omega
  by_cases hlen : len ≤ 150
  · obtain ⟨k0, hk0⟩ := rows_int (j := 0) (k := .i64) hl (by omega) (by kernel_rfl)
    obtain ⟨k1, hk1⟩ := rows_int (j := 1) (k := .i64) hl (by omega) (by kernel_rfl)
    obtain ⟨k2, hk2⟩ := rows_int (j := 2) (k := .i64) hl (by omega) (by kernel_rfl)
    obtain ⟨k3, hk3⟩ := rows_int (j := 3) (k := .i64) hl (by omega) (by kernel_rfl)
    obtain ⟨k4, hk4⟩ := rows_int (j := 4) (k := .i64) hl (by omega) (by kernel_rfl)
    obtain ⟨k5, hk5⟩ := rows_int (j := 5) (k := .i64) hl (by omega) (by kernel_rfl)
    obtain ⟨k6, hk6⟩ := rows_int (j := 6) (k := .i64) hl (by omega) (by kernel_rfl)
    obtain ⟨k7, hk7⟩ := rows_bool (j := 7) hl (by omega) (by kernel_rfl)
    refine lkeeps_short A bA p len cap (fun i => ⟨k0 i, k1 i, k2 i, k3 i, k4 i, k5 i, k6 i, k7 i⟩) w hlen fun i hi => ?_
    rcases h with ⟨_, q1, q2⟩ | ⟨x0, e, q1, _, hcell⟩
    · omega
    · refine ⟨?_, x0, e, ?_, fun k v hv => ?_⟩
      · exact ⟨(hk2 i (by omega)).2, (hk3 i (by omega)).2, (hk4 i (by omega)).2, (hk5 i (by omega)).2, (hk6 i (by omega)).2⟩
      · have c := fun j hj => hcell i (by omega) j hj
        have := World.block_lt_of_cell? w _ (c 1 (by omega))
        unfold Addr.add at this
        split at this <;> exact this
      · have c := fun j hj => hcell i (by omega) j hj
        have hk9 : k < 8 := (List.getElem?_eq_some_iff.1 hv).1
        rw [Go.Deep.add_add, c k hk9]
        rcases (show k = 0 ∨ k = 1 ∨ k = 2 ∨ k = 3 ∨ k = 4 ∨ k = 5 ∨ k = 6 ∨ k = 7 by omega) with rfl | rfl | rfl | rfl | rfl | rfl | rfl | rfl
        · rw [(hk0 i (by omega)).1]; exact hv
        · rw [(hk1 i (by omega)).1]; exact hv
        · rw [(hk2 i (by omega)).1]; exact hv
        · rw [(hk3 i (by omega)).1]; exact hv
        · rw [(hk4 i (by omega)).1]; exact hv
        · rw [(hk5 i (by omega)).1]; exact hv
        · rw [(hk6 i (by omega)).1]; exact hv
        · rw [hk7 i (by omega)]; exact hv
  · exact lkeeps_long A p len cap w (by omega)
end Go.Proofs.YtjjdkkdnlnbedaaGreat
