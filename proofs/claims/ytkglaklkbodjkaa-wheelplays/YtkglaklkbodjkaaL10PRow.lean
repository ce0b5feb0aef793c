import Derived.Test.YtkglaklkbodjkaaL10Plays
namespace Go.Proofs.Ytkglaklkbodjkaa
open Go.RowKit Wh

theorem lplays10_row (p : Option Addr) (len cap : Nat) (V : Nat → Nat → Value) (w : World) (h : SRow 3 w p len cap V)
    (hl : ∀ i, i < cap → ∀ j l, j < 3 → leafAt Try.prog 8 28 j = some l → l.is (V i j)) :
    Calls Try.prog 3 #[.slice p len cap] w fun e w' => e = .returned (.bool true) ∧ Below w.heap.size w w' := by
  by_cases hlen : len ≤ 60
  · obtain ⟨kd, hkd⟩ := rows_int (j := 0) (k := .u8) hl (by omega) (by kernel_rfl)
    obtain ⟨ka, hka⟩ := rows_int (j := 1) (k := .i64) hl (by omega) (by kernel_rfl)
    obtain ⟨kb, hkb⟩ := rows_int (j := 2) (k := .i64) hl (by omega) (by kernel_rfl)
    rcases h with ⟨_, q1, q2⟩ | ⟨x0, e, q1, _, hcell⟩
    · exact lplays10_short p len cap kd ka kb w hlen (fun i hi => by omega) (fun i hi => by omega) (fun i hi => by omega)
    · refine lplays10_short p len cap kd ka kb w hlen (fun i hi => ?_) (fun i hi => (hka i (by omega)).2) (fun i hi => ?_)
      · have := (hkd i (by omega)).2
        simp [Lit.wf, IntKind.min, IntKind.max, IntKind.signed, IntKind.bits] at this
        omega
      · have c0 := hcell i (by omega) 0 (by omega)
        have c1 := hcell i (by omega) 1 (by omega)
        have c2 := hcell i (by omega) 2 (by omega)
        rw [(hkd i (by omega)).1] at c0
        rw [(hka i (by omega)).1] at c1
        rw [(hkb i (by omega)).1] at c2
        refine ⟨x0, e, ?_, c0, c1, c2⟩
        have := World.block_lt_of_cell? w _ c1
        unfold Addr.add at this
        split at this <;> exact this
  · exact lplays10_long p len cap w (by omega)
end Go.Proofs.Ytkglaklkbodjkaa
