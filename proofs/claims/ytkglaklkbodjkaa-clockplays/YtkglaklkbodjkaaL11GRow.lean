import Derived.Test.YtkglaklkbodjkaaL11Goes
namespace Go.Proofs.Ytkglaklkbodjkaa
open Go.RowKit Kt

/-- What a row of acts reads as. -/
theorem acts_row {p : Option Addr} {len cap : Nat} {V : Nat → Nat → Value} {w : World} (h : SRow 2 w p len cap V)
    (hl : ∀ i, i < cap → ∀ j l, j < 2 → leafAt Try.prog 8 57 j = some l → l.is (V i j)) :
    ∃ kd kn : Nat → Int, (∀ i, i < len → 0 ≤ kd i ∧ kd i ≤ 255) ∧ (∀ i, i < len → ∃ x, p = some x ∧ x.block < w.heap.size ∧ w.cell? (x.add (i * 2)) = some (.int .u8 (kd i)) ∧ w.cell? (x.add (i * 2 + 1)) = some (.int .i64 (kn i))) := by
  obtain ⟨kd, hkd⟩ := rows_int (j := 0) (k := .u8) hl (by omega) (by kernel_rfl)
  obtain ⟨ka, hka⟩ := rows_int (j := 1) (k := .i64) hl (by omega) (by kernel_rfl)
  refine ⟨kd, ka, ?_, ?_⟩
  · intro i hi
    rcases h with ⟨_, q1, q2⟩ | ⟨x, e, q1, _, hcell⟩
    · omega
    · have := (hkd i (by omega)).2
      simp [Lit.wf, IntKind.min, IntKind.max, IntKind.signed, IntKind.bits] at this
      omega
  · intro i hi
    rcases h with ⟨_, q1, q2⟩ | ⟨x, e, q1, _, hcell⟩
    · omega
    · have c0 := hcell i (by omega) 0 (by omega)
      have c1 := hcell i (by omega) 1 (by omega)
      rw [(hkd i (by omega)).1] at c0
      rw [(hka i (by omega)).1] at c1
      refine ⟨x, e, ?_, c0, c1⟩
      have := World.block_lt_of_cell? w _ c1
      unfold Addr.add at this
      split at this <;> exact this
theorem lgoes_row (p : Option Addr) (len cap : Nat) (V : Nat → Nat → Value) (w : World) (h : SRow 2 w p len cap V)
    (hl : ∀ i, i < cap → ∀ j l, j < 2 → leafAt Try.prog 8 57 j = some l → l.is (V i j)) :
    Calls Try.prog 7 #[.slice p len cap] w fun e w' => e = .returned (.bool true) ∧ Below w.heap.size w w' := by
  by_cases hlen : len ≤ 200
  · obtain ⟨kd, kn, h1, h2⟩ := acts_row h hl
    exact lgoes_short p len cap kd kn w hlen h1 h2
  · exact lgoes_long p len cap w (by omega)
end Go.Proofs.Ytkglaklkbodjkaa
