import Derived.Test.YtabmjaioejacaaaL14Moves
import Derived.Test.YtabmjaioejacaaaFlt
namespace Go.Proofs.Ytabmjaioejacaaa
open Go.RowKit Kt Qu

theorem lmoves_row (p : Option Addr) (len cap : Nat) (V : Nat → Nat → Value) (o0 o1 o2 : Int) (w : World) (h : SRow 5 w p len cap V)
    (hl : ∀ i, i < cap → ∀ j l, j < 5 → leafAt Try.prog 8 29 j = some l → l.is (V i j)) :
    Calls Try.prog 4 #[.slice p len cap, .agg #[.int .i64 o0, .int .i64 o1, .int .i64 o2]] w fun e w' => e = .returned (.bool true) ∧ Below w.heap.size w w' := by
  by_cases hlen : len ≤ 50
  · obtain ⟨k0, hk0⟩ := rows_int (j := 0) (k := .i64) hl (by omega) (by kernel_rfl)
    obtain ⟨k1, hk1⟩ := rows_int (j := 1) (k := .i64) hl (by omega) (by kernel_rfl)
    obtain ⟨k2, hk2⟩ := rows_int (j := 2) (k := .i64) hl (by omega) (by kernel_rfl)
    obtain ⟨k3, hk3⟩ := rows_int (j := 3) (k := .i64) hl (by omega) (by kernel_rfl)
    obtain ⟨k4, hk4⟩ := rows_bool (j := 4) hl (by omega) (by kernel_rfl)
    rcases h with ⟨_, q1, q2⟩ | ⟨x0, e, q1, _, hcell⟩
    · exact lmoves_short p len cap (fun i => ⟨k0 i, k1 i, k2 i, k3 i, k4 i⟩) o0 o1 o2 w hlen (fun i hi => by omega) (fun i hi => by omega)
    · refine lmoves_short p len cap (fun i => ⟨k0 i, k1 i, k2 i, k3 i, k4 i⟩) o0 o1 o2 w hlen (fun i hi => ⟨(hk0 i (by omega)).2, (hk1 i (by omega)).2, (hk2 i (by omega)).2, (hk3 i (by omega)).2⟩) (fun i hi => ?_)
      have c := fun j hj => hcell i (by omega) j hj
      refine ⟨x0, e, ?_, fun k v hv => ?_⟩
      · have := World.block_lt_of_cell? w _ (c 1 (by omega))
        unfold Addr.add at this
        split at this <;> exact this
      · have hk5 : k < 5 := (List.getElem?_eq_some_iff.1 hv).1
        rw [Go.Deep.add_add, c k hk5]
        rcases (show k = 0 ∨ k = 1 ∨ k = 2 ∨ k = 3 ∨ k = 4 by omega) with rfl | rfl | rfl | rfl | rfl
        · rw [(hk0 i (by omega)).1]; exact hv
        · rw [(hk1 i (by omega)).1]; exact hv
        · rw [(hk2 i (by omega)).1]; exact hv
        · rw [(hk3 i (by omega)).1]; exact hv
        · rw [hk4 i (by omega)]; exact hv
  · exact lmoves_long p len cap o0 o1 o2 w (by omega)
end Go.Proofs.Ytabmjaioejacaaa
