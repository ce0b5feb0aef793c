import Derived.Test.YtjjdkkdnlnbedaaGreatL15Soon
import Derived.Test.YtjjdkkdnlnbedaaGreatFlt
namespace Go.Proofs.YtjjdkkdnlnbedaaGreat
open Go.RowKit Kt Qu

theorem lsoon_row (A B : Int) (wA : (Lit.int .u8 A).wf = true) (wB : (Lit.int .u8 B).wf = true) (p : Option Addr) (len cap : Nat) (V : Nat → Nat → Value) (pg : Option Addr) (leng capg : Nat) (zs : List Int) (w : World) (h : SRow 5 w p len cap V)
    (hl : ∀ i, i < cap → ∀ j l, j < 5 → leafAt Tryz.prog 8 35 j = some l → l.is (V i j))
    (hg : (pg = none ∧ leng = 0 ∧ capg = 0 ∧ zs = []) ∨ ∃ x, pg = some x ∧ leng ≤ capg ∧ capg ≤ maxLen ∧ zs.length = capg ∧ (∀ i, i < zs.length → w.cell? (x.add i) = some (.int .u8 (zs.getD i 0))) ∧ ∀ n ∈ zs, (Lit.int .u8 n).wf = true) :
    Calls Tryz.prog 7 #[.int .u8 A, .int .u8 B, .slice p len cap, .slice pg leng capg] w fun e w' => e = .returned (.bool true) ∧ Below w.heap.size w w' := by
  have bA : 0 ≤ A ∧ A ≤ 255 := by
    simp [Lit.wf, IntKind.min, IntKind.max, IntKind.signed, IntKind.bits] at wA
    omega
  have bB : 0 ≤ B ∧ B ≤ 255 := by
    simp [Lit.wf, IntKind.min, IntKind.max, IntKind.signed, IntKind.bits] at wB
    omega
  by_cases hlen : len ≤ 30
  · obtain ⟨k0, hk0⟩ := rows_int (j := 0) (k := .i64) hl (by omega) (by kernel_rfl)
    obtain ⟨k1, hk1⟩ := rows_int (j := 1) (k := .i64) hl (by omega) (by kernel_rfl)
    obtain ⟨k2, hk2⟩ := rows_int (j := 2) (k := .i64) hl (by omega) (by kernel_rfl)
    obtain ⟨k3, hk3⟩ := rows_int (j := 3) (k := .i64) hl (by omega) (by kernel_rfl)
    obtain ⟨k4, hk4⟩ := rows_bool (j := 4) hl (by omega) (by kernel_rfl)
    refine lsoon_short A B bA bB p pg len cap leng capg (fun i => ⟨k0 i, k1 i, k2 i, k3 i, k4 i⟩) (fun i => zs.getD i 0) w hlen (fun i hi => ?_) (fun i hi => ?_)
    · rcases h with ⟨_, q1, q2⟩ | ⟨x0, e, q1, _, hcell⟩
      · omega
      · refine ⟨x0, e, ?_, fun k v hv => ?_⟩
        · have c := fun j hj => hcell i (by omega) j hj
          have := World.block_lt_of_cell? w _ (c 1 (by omega))
          unfold Addr.add at this
          split at this <;> exact this
        · have c := fun j hj => hcell i (by omega) j hj
          have hk9 : k < 5 := (List.getElem?_eq_some_iff.1 hv).1
          rw [Go.Deep.add_add, c k hk9]
          rcases (show k = 0 ∨ k = 1 ∨ k = 2 ∨ k = 3 ∨ k = 4 by omega) with rfl | rfl | rfl | rfl | rfl
          · rw [(hk0 i (by omega)).1]; exact hv
          · rw [(hk1 i (by omega)).1]; exact hv
          · rw [(hk2 i (by omega)).1]; exact hv
          · rw [(hk3 i (by omega)).1]; exact hv
          · rw [hk4 i (by omega)]; exact hv
    · rcases hg with ⟨_, q1, q2, _⟩ | ⟨x0, e, q1, _, q2, hcell, hwf⟩
      · omega
      · have hc := hcell i (by omega)
        have hm : zs.getD i 0 ∈ zs := by
          rw [List.getD_eq_getElem?_getD, List.getElem?_eq_getElem (by omega)]
          exact List.getElem_mem _
        have hw := hwf _ hm
        generalize zs.getD i 0 = zi at *
        simp [Lit.wf, IntKind.min, IntKind.max, IntKind.signed, IntKind.bits] at hw
        refine ⟨by omega, x0, e, ?_, hc⟩
        have := World.block_lt_of_cell? w _ hc
        unfold Addr.add at this
        split at this <;> exact this
  · exact lsoon_long A B p pg len cap leng capg w (by omega)
end Go.Proofs.YtjjdkkdnlnbedaaGreat
