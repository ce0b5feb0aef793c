import Derived.Test.YtabmjaioejacaaaL14Plays
import Derived.Test.YtabmjaioejacaaaFlt
namespace Go.Proofs.Ytabmjaioejacaaa
open Go.RowKit Kt Qu

theorem lplays14_row (p : Option Addr) (len cap : Nat) (V : Nat → Nat → Value) (o0 o1 o2 : Int) (w : World) (h : SRow 9 w p len cap V)
    (hl : ∀ i, i < cap → ∀ j l, j < 9 → leafAt Try.prog 8 31 j = some l → l.is (V i j)) :
    Calls Try.prog 3 #[.slice p len cap, .agg #[.int .i64 o0, .int .i64 o1, .int .i64 o2]] w fun e w' => e = .returned (.bool true) ∧ Below w.heap.size w w' := by
  by_cases hlen : len ≤ 60
  · obtain ⟨kd, hkd⟩ := rows_int (j := 0) (k := .u8) hl (by omega) (by kernel_rfl)
    obtain ⟨k0, hk0⟩ := rows_int (j := 1) (k := .i64) hl (by omega) (by kernel_rfl)
    obtain ⟨k1, hk1⟩ := rows_int (j := 2) (k := .i64) hl (by omega) (by kernel_rfl)
    obtain ⟨k2, hk2⟩ := rows_int (j := 3) (k := .i64) hl (by omega) (by kernel_rfl)
    obtain ⟨k3, hk3⟩ := rows_int (j := 4) (k := .i64) hl (by omega) (by kernel_rfl)
    obtain ⟨k4, hk4⟩ := rows_bool (j := 5) hl (by omega) (by kernel_rfl)
    obtain ⟨k5, hk5⟩ := rows_int (j := 6) (k := .i64) hl (by omega) (by kernel_rfl)
    obtain ⟨k6, hk6⟩ := rows_int (j := 7) (k := .i64) hl (by omega) (by kernel_rfl)
    obtain ⟨k7, hk7⟩ := rows_int (j := 8) (k := .i64) hl (by omega) (by kernel_rfl)
    rcases h with ⟨_, q1, q2⟩ | ⟨x0, e, q1, _, hcell⟩
    · exact lplays14_short p len cap kd (fun i => ⟨k0 i, k1 i, k2 i, k3 i, k4 i⟩) k5 k6 k7 o0 o1 o2 w hlen (fun i hi => by omega) (fun i hi => by omega) (fun i hi => by omega)
    · refine lplays14_short p len cap kd (fun i => ⟨k0 i, k1 i, k2 i, k3 i, k4 i⟩) k5 k6 k7 o0 o1 o2 w hlen (fun i hi => ?_) (fun i hi => ⟨(hk0 i (by omega)).2, (hk1 i (by omega)).2, (hk2 i (by omega)).2, (hk3 i (by omega)).2⟩) (fun i hi => ?_)
      · have := (hkd i (by omega)).2
        simp [Lit.wf, IntKind.min, IntKind.max, IntKind.signed, IntKind.bits] at this
        omega
      · have c := fun j hj => hcell i (by omega) j hj
        refine ⟨x0, e, ?_, fun k v hv => ?_⟩
        · have := World.block_lt_of_cell? w _ (c 1 (by omega))
          unfold Addr.add at this
          split at this <;> exact this
        · have hk9 : k < 9 := (List.getElem?_eq_some_iff.1 hv).1
          rw [Go.Deep.add_add, c k hk9]
          rcases (show k = 0 ∨ k = 1 ∨ k = 2 ∨ k = 3 ∨ k = 4 ∨ k = 5 ∨ k = 6 ∨ k = 7 ∨ k = 8 by omega) with rfl | rfl | rfl | rfl | rfl | rfl | rfl | rfl | rfl
          · rw [(hkd i (by omega)).1]; exact hv
          · rw [(hk0 i (by omega)).1]; exact hv
          · rw [(hk1 i (by omega)).1]; exact hv
          · rw [(hk2 i (by omega)).1]; exact hv
          · rw [(hk3 i (by omega)).1]; exact hv
          · rw [hk4 i (by omega)]; exact hv
          · rw [(hk5 i (by omega)).1]; exact hv
          · rw [(hk6 i (by omega)).1]; exact hv
          · rw [(hk7 i (by omega)).1]; exact hv
  · exact lplays14_long p len cap o0 o1 o2 w (by omega)
end Go.Proofs.Ytabmjaioejacaaa
