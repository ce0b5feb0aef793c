import Derived.Test.YtkglaklkbodjkaaL12Plays
namespace Go.Proofs.Ytkglaklkbodjkaa
open Go.RowKit Kt

theorem lplays12_row (le gr : Int) (p : Option Addr) (len cap : Nat) (V : Nat → Nat → Value) (w : World) (h : SRow 3 w p len cap V)
    (hl : ∀ i, i < cap → ∀ j l, j < 3 → leafAt Try.prog 8 68 j = some l → l.is (V i j)) :
    Calls Try.prog 8 #[.int .i64 le, .int .i64 gr, .slice p len cap] w fun e w' => e = .returned (.bool true) ∧ Below w.heap.size w w' := by
  by_cases hlen : len ≤ 100
  · by_cases hP : 0 ≤ le ∧ le ≤ gr ∧ 1 ≤ gr ∧ gr ≤ 1099511627776
    · obtain ⟨h0, h1, h2, h3⟩ := hP
      obtain ⟨kd, hkd⟩ := rows_int (j := 0) (k := .u8) hl (by omega) (by kernel_rfl)
      obtain ⟨ka, hka⟩ := rows_int (j := 1) (k := .i64) hl (by omega) (by kernel_rfl)
      obtain ⟨kb, hkb⟩ := rows_int (j := 2) (k := .i64) hl (by omega) (by kernel_rfl)
      rcases h with ⟨_, q1, q2⟩ | ⟨x, e, q1, _, hcell⟩
      · exact lplays12_short le gr p len cap kd ka kb w hlen h0 h1 h2 h3 (fun i hi => by omega) (fun i hi => by omega)
      · refine lplays12_short le gr p len cap kd ka kb w hlen h0 h1 h2 h3 (fun i hi => ?_) (fun i hi => ?_)
        · have := (hkd i (by omega)).2
          simp [Lit.wf, IntKind.min, IntKind.max, IntKind.signed, IntKind.bits] at this
          omega
        · have c0 := hcell i (by omega) 0 (by omega)
          have c1 := hcell i (by omega) 1 (by omega)
          have c2 := hcell i (by omega) 2 (by omega)
          rw [(hkd i (by omega)).1] at c0
          rw [(hka i (by omega)).1] at c1
          rw [(hkb i (by omega)).1] at c2
          refine ⟨x, e, ?_, c0, c1, c2⟩
          have := World.block_lt_of_cell? w _ c1
          unfold Addr.add at this
          split at this <;> exact this
    · exact lplays12_bad le gr p len cap w hlen hP
  · exact lplays12_long le gr p len cap w (by omega)
end Go.Proofs.Ytkglaklkbodjkaa
