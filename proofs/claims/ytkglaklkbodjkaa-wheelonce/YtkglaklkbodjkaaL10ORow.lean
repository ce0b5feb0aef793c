import Derived.Test.YtkglaklkbodjkaaL10Once
namespace Go.Proofs.Ytkglaklkbodjkaa
open Go.RowKit Wh

theorem lonce_row (p : Option Addr) (len cap : Nat) (zs : List Int) (p2 : Option Addr) (len2 cap2 : Nat) (V : Nat → Nat → Value) (w : World)
    (h : (p = none ∧ len = 0 ∧ cap = 0 ∧ zs = []) ∨ ∃ x, p = some x ∧ len ≤ cap ∧ cap ≤ maxLen ∧ zs.length = cap ∧ (∀ i, i < zs.length → w.cell? (x.add i) = some (.int .u16 (zs.getD i 0))) ∧ ∀ n ∈ zs, (Lit.int .u16 n).wf = true)
    (h2 : SRow 1 w p2 len2 cap2 V) (hl : ∀ i, i < cap2 → ∀ j l, j < 1 → leafAt Try.prog 8 4 j = some l → l.is (V i j)) :
    Calls Try.prog 5 #[.slice p len cap, .slice p2 len2 cap2] w fun e w' => e = .returned (.bool true) ∧ Below w.heap.size w w' := by
  by_cases hlen : len ≤ 100
  · obtain ⟨b, hb⟩ := rows_bool (j := 0) hl (by omega) (by kernel_rfl)
    have hbs : ∀ i, i < len2 → ∃ x, p2 = some x ∧ x.block < w.heap.size ∧ w.cell? (x.add i) = some (.bool (b i)) := fun i hi => by
      rcases h2 with ⟨_, q1, q2⟩ | ⟨x, e, q1, _, hcell⟩
      · omega
      · have c0 := hcell i (by omega) 0 (by omega)
        rw [hb i (by omega), Nat.mul_one, Nat.add_zero] at c0
        refine ⟨x, e, ?_, c0⟩
        have := World.block_lt_of_cell? w _ c0
        unfold Addr.add at this
        split at this <;> exact this
    rcases h with ⟨_, h1, h3, _⟩ | ⟨x, e, h1, _, h3, hcell, hwf⟩
    · exact lonce_short p len cap p2 len2 cap2 (fun _ => 0) b w hlen (fun i hi => by omega) (fun i hi => by omega) hbs
    · refine lonce_short p len cap p2 len2 cap2 (fun i => zs.getD i 0) b w hlen (fun i hi => ?_) (fun i hi => ?_) hbs
      · have hm : zs.getD i 0 ∈ zs := by
          rw [List.getD_eq_getElem?_getD, List.getElem?_eq_getElem (by omega)]
          exact List.getElem_mem _
        have := hwf _ hm
        show 0 ≤ zs.getD i 0 ∧ zs.getD i 0 ≤ 65535
        generalize zs.getD i 0 = v at this
        simp [Lit.wf, IntKind.min, IntKind.max, IntKind.signed, IntKind.bits] at this
        exact this
      · have hc := hcell i (by omega)
        refine ⟨x, e, ?_, hc⟩
        have := World.block_lt_of_cell? w (x.add i) hc
        unfold Addr.add at this
        split at this <;> exact this
  · exact lonce_long p len cap p2 len2 cap2 w (by omega)
end Go.Proofs.Ytkglaklkbodjkaa
