import Derived.Test.YtkmjmnmiglgokaaL5Muls
namespace Go.Proofs.Ytkmjmnmiglgokaa
open Go.RowKit Ph

set_option maxRecDepth 20000 in
set_option maxHeartbeats 2000000 in
theorem lwalks_walk (p : Option Addr) (len cap : Nat) (zs : List Int) (w : World) (hl : len ≤ cap)
    (hc : ∀ i, i < len → ∃ x, p = some x ∧ w.cell? (x.add i) = some (.int .u8 (zs.getD i 0)) ∧ 0 ≤ zs.getD i 0 ∧ x.block < w.heap.size) :
    Calls Try.prog 5 #[.slice p len cap] w fun e w' => e = .returned (.bool true) ∧ Below w.heap.size w w' := by
  by_cases hlen : len ≤ 6000
  · have later : ∀ w1 : World, Below w.heap.size w w1 → ∀ i, i < len → ∃ x, p = some x ∧ w1.cell? (x.add i) = some (.int .u8 (zs.getD i 0)) ∧ 0 ≤ zs.getD i 0 ∧ x.block < w1.heap.size := by
      intro w1 hb i hi
      obtain ⟨x, e, h1, h2, h3⟩ := hc i hi
      refine ⟨x, e, ?_, h2, Nat.lt_of_lt_of_le h3 hb.size⟩
      rw [hb.cell (p := x.add i) (by unfold Addr.add; split <;> exact h3)]; exact h1
    have inv := wk_inv zs (min len 4096)
    obtain ⟨⟨a, b, c, d⟩, hp⟩ : ∃ q, wk zs (min len 4096) = q := ⟨_, rfl⟩
    rw [hp] at inv
    simp only at inv
    obtain ⟨i1, i2, i3⟩ := inv
    unfold UnitZ at i3
    have h1 : inB a = true := by rw [inB_iff]; omega
    have h2 : inB b = true := by rw [inB_iff]; omega
    have h3 : inB c = true := by rw [inB_iff]; omega
    have h4 : inB d = true := by rw [inB_iff]; omega
    have hS : Sq c d 1 := i3.1
    clear i1 i2 i3
    have CW := hide (fun (w1 : World) (hb : Below w.heap.size w w1) => walk_any p len cap zs w1 hl (fun i hi => by obtain ⟨x, e, h1, h2, _⟩ := later w1 hb i hi; exact ⟨x, e, h1, h2⟩))
    have CR := hide (fun (w1 : World) (hb : Below w.heap.size w w1) => rwalk_any p len cap zs w1 hlen (later w1 hb))
    rw [hp] at CW CR
    clear later hc hp
    go_enter Try.func5, Try.ntmps5
    go_wp2_with (first
      | (go_at_call 11; refine (fixed5 _).mono ?_; rintro e w1 ⟨rfl, hb1⟩)
      | (go_at_call 21; refine ((unhide CW) _ (by assumption)).mono ?_; rintro e w' ⟨u, v, rfl, ⟨X, Y, rfl, hX, hY⟩, ⟨C, D, rfl, hC, hD⟩, rfl⟩)
      | (go_at_call 22; refine ((unhide CR) _ (by assumption)).mono ?_; rintro e w2 ⟨a', b', c', d', hq, rfl, hb2⟩; simp only [Prod.mk.injEq] at hq; obtain ⟨rfl, rfl, rfl, rfl⟩ := hq))
    obtain ⟨W0, hW0⟩ : ∃ W0, W0 = (w2.alloc (.cells #[.int .i64 a, .int .i64 b] 27)).alloc (.cells #[.int .i64 c, .int .i64 d] 27) := ⟨_, rfl⟩
    have B0 : Below w.heap.size w W0 := by rw [hW0]; exact (hb1.trans (hb2.mono hb1.size)).trans ((below2 _ _ _).mono (Nat.le_trans hb1.size hb2.size))
    have r2 := held4 (W := W0) (v := .int .i64 c) (a := ⟨w2.heap.size + 1, 0, none⟩) (by rw [hW0]; simp [go_sem])
    have r3 := held4 (W := W0) (v := .int .i64 d) (a := ⟨w2.heap.size + 1, 1, none⟩) (by rw [hW0]; simp [go_sem])
    rw [← hW0]
    clear hW0
    refine (is_any _ _ _ _ hX hY h1 h2 _).mono ?_
    rintro e w3 ⟨rfl, S3⟩
    go_wp2_with (first | (go_at_call 18; refine (norm_named _ _ _ _ _ (by assumption) (by assumption) (by assumption) (by assumption) hS _).mono ?_; rintro e w4 ⟨rfl, rfl⟩) | (go_at_call 15; refine (is_any _ _ _ _ (by assumption) (by assumption) (by assumption) (by assumption) _).mono ?_; rintro e w4 ⟨rfl, hb4⟩; have hk4 := Below.trans (by assumption) (hb4.mono (Below.size (by assumption)))))
    go_ret
    exact ⟨rfl, B0.trans (Below.mono (B := W0.heap.size) (by assumption) B0.size)⟩
  · clear hc
    go_enter Try.func5, Try.ntmps5
    go_wp2_with (go_at_call 11; refine (fixed5 _).mono ?_; rintro e w1 ⟨rfl, hb1⟩)
    go_ret
    exact ⟨rfl, hb1⟩

theorem lwalks_row (p : Option Addr) (len cap : Nat) (zs : List Int) (w : World)
    (h : (p = none ∧ len = 0 ∧ cap = 0 ∧ zs = []) ∨ ∃ x, p = some x ∧ len ≤ cap ∧ cap ≤ maxLen ∧ zs.length = cap ∧ (∀ i, i < zs.length → w.cell? (x.add i) = some (.int .u8 (zs.getD i 0))) ∧ ∀ n ∈ zs, (Lit.int .u8 n).wf = true) :
    Calls Try.prog 5 #[.slice p len cap] w fun e w' => e = .returned (.bool true) ∧ Below w.heap.size w w' := by
  refine lwalks_walk p len cap zs w ?_ ?_
  · rcases h with ⟨_, h1, h2, _⟩ | ⟨x, _, h1, _⟩ <;> omega
  · intro i hi
    rcases h with ⟨_, h1, h2, _⟩ | ⟨x, e, h1, _, h2, hcell, hwf⟩
    · omega
    · have hc := hcell i (by omega)
      refine ⟨x, e, hc, ?_, ?_⟩
      · have hm : zs.getD i 0 ∈ zs := by
          rw [List.getD_eq_getElem?_getD, List.getElem?_eq_getElem (by omega)]
          exact List.getElem_mem _
        have := hwf _ hm
        generalize zs.getD i 0 = v at this
        have h0 : IntKind.u8.min = 0 := rfl
        simp only [Lit.wf, h0, Bool.and_eq_true, decide_eq_true_eq] at this
        omega
      · have := World.block_lt_of_cell? w (x.add i) hc
        unfold Addr.add at this
        split at this <;> exact this
end Go.Proofs.Ytkmjmnmiglgokaa
