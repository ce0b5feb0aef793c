import Derived.Test.YtpkadbjgkoijiaaL6Plays
namespace Go.Proofs.Ytpkadbjgkoijiaa
open Go.RowKit

set_option maxRecDepth 100000 in
set_option maxHeartbeats 1000000 in
theorem lplays_long (P : Int) (p : Option Addr) (len cap : Nat) (tm : Int) (w : World) (hlen : 150 < len) :
    Calls Try.prog 3 #[.int .i64 P, .slice p len cap, .int .i64 tm] w fun e w' => e = .returned (.bool true) ∧ Below w.heap.size w w' := by
  have CF := hide (fixed6 w)
  have hl2 : (150 : Int) < ((len : Nat) : Int) := by omega
  go_enter Try.func3, Try.ntmps3
  go_wp2_with (go_at_call 4; refine (unhide CF).mono ?_; rintro e w1 ⟨rfl, hb1⟩)
  go_ret
  exact ⟨rfl, hb1⟩
set_option maxRecDepth 100000 in
set_option maxHeartbeats 1000000 in
theorem lplays_bad (P : Int) (p : Option Addr) (len cap : Nat) (tm : Int) (w : World) (hlen : len ≤ 150) (hP : P < 1 ∨ 4096 < P) :
    Calls Try.prog 3 #[.int .i64 P, .slice p len cap, .int .i64 tm] w fun e w' => e = .returned (.bool true) ∧ Below w.heap.size w w' := by
  have CF := hide (fixed6 w)
  have CN := fun w' => hide (new_bad P hP w')
  have C1 := fun w' => hide (firstH_nil w')
  have C2 := fun w' => hide (at_nil w' tm)
  have C3 := fun w' => hide (drop_nil w' 1 1)
  have C4 := fun w' => hide (keys_nil w')
  have S : Below w.heap.size w w := Below.refl _ _
  have hl2 : ((len : Nat) : Int) ≤ 150 := by omega
  have hd : (decide (P < 1) || decide (4096 < P)) = true := by
    rcases hP with h | h
    · rw [decide_eq_true h]; rfl
    · rw [decide_eq_true h, Bool.or_true]
  by_cases h1 : P < 1
  · clear hP hd
    go_enter Try.func3, Try.ntmps3
    go_wp2_with (first
      | (go_at_call 4; refine (unhide CF).mono ?_; rintro e w1 ⟨rfl, hb⟩; have S := Below.trans S (hb.mono S.size); clear hb)
      | (go_at_call 5; refine (unhide (CN _)).mono ?_; rintro e w1 ⟨rfl, rfl⟩)
      | (go_at_call 6; refine (unhide (C1 _)).mono ?_; rintro e w1 ⟨rfl, hb⟩; have S := Below.trans S (hb.mono S.size); clear hb)
      | (go_at_call 7; refine Hid.out ?_))
    refine hide ?_
    refine (unhide (C2 _)).mono ?_
    rintro e w2 ⟨rfl, hb2⟩
    have S2 := S.trans (((one_below _ _).trans (hb2.mono (one_below _ _).size)).mono S.size)
    go_wp2_with (go_at_call 8; refine Hid.out ?_)
    refine hide ?_
    refine (unhide (C3 _)).mono ?_
    rintro e w3 ⟨rfl, hb3⟩
    have S3 := S2.trans (((one_below _ _).trans (hb3.mono (one_below _ _).size)).mono S2.size)
    go_wp2_with (go_at_call 9; refine (unhide (C4 _)).mono ?_; rintro e w4 ⟨rfl, rfl⟩)
    go_ret
    exact ⟨rfl, S3⟩
  · have h2 : 4096 < P := by omega
    clear hP hd
    go_enter Try.func3, Try.ntmps3
    go_wp2_with (first
      | (go_at_call 4; refine (unhide CF).mono ?_; rintro e w1 ⟨rfl, hb⟩; have S := Below.trans S (hb.mono S.size); clear hb)
      | (go_at_call 5; refine (unhide (CN _)).mono ?_; rintro e w1 ⟨rfl, rfl⟩)
      | (go_at_call 6; refine (unhide (C1 _)).mono ?_; rintro e w1 ⟨rfl, hb⟩; have S := Below.trans S (hb.mono S.size); clear hb)
      | (go_at_call 7; refine Hid.out ?_))
    refine hide ?_
    refine (unhide (C2 _)).mono ?_
    rintro e w2 ⟨rfl, hb2⟩
    have S2 := S.trans (((one_below _ _).trans (hb2.mono (one_below _ _).size)).mono S.size)
    go_wp2_with (go_at_call 8; refine Hid.out ?_)
    refine hide ?_
    refine (unhide (C3 _)).mono ?_
    rintro e w3 ⟨rfl, hb3⟩
    have S3 := S2.trans (((one_below _ _).trans (hb3.mono (one_below _ _).size)).mono S2.size)
    go_wp2_with (go_at_call 9; refine (unhide (C4 _)).mono ?_; rintro e w4 ⟨rfl, rfl⟩)
    go_ret
    exact ⟨rfl, S3⟩
theorem lplays_row (P : Int) (p : Option Addr) (len cap : Nat) (V : Nat → Nat → Value) (tm : Int) (w : World) (h : SRow 6 w p len cap V)
    (hl : ∀ i, i < cap → ∀ j l, j < 6 → leafAt Try.prog 8 40 j = some l → l.is (V i j)) :
    Calls Try.prog 3 #[.int .i64 P, .slice p len cap, .int .i64 tm] w fun e w' => e = .returned (.bool true) ∧ Below w.heap.size w w' := by
  by_cases hlen : len ≤ 150
  · by_cases hP : P < 1 ∨ 4096 < P
    · exact lplays_bad P p len cap tm w hlen hP
    · obtain ⟨Q, rfl⟩ := Int.eq_ofNat_of_zero_le (show 0 ≤ P by omega)
      obtain ⟨kd, hkd⟩ := rows_int (j := 0) (k := .u8) hl (by omega) (by kernel_rfl)
      obtain ⟨ka, hka⟩ := rows_int (j := 1) (k := .i64) hl (by omega) (by kernel_rfl)
      obtain ⟨kb, hkb⟩ := rows_int (j := 2) (k := .i64) hl (by omega) (by kernel_rfl)
      obtain ⟨ii, hii⟩ := rows_int (j := 3) (k := .i64) hl (by omega) (by kernel_rfl)
      obtain ⟨hp, hhp⟩ := rows_int (j := 4) (k := .i64) hl (by omega) (by kernel_rfl)
      obtain ⟨ht, hht⟩ := rows_int (j := 5) (k := .i64) hl (by omega) (by kernel_rfl)
      rcases h with ⟨_, h1, h2⟩ | ⟨x, e, h1, _, hcell⟩
      · exact lplays_short Q p len cap kd ka kb ii hp ht tm w (by omega) (by omega) hlen (fun i hi => by omega) (fun i hi => by omega) (fun i hi => by omega)
      · refine lplays_short Q p len cap kd ka kb ii hp ht tm w (by omega) (by omega) hlen (fun i hi => ?_) (fun i hi => ?_) (fun i hi => ?_)
        · have := (hkd i (by omega)).2
          simp [Lit.wf, IntKind.min, IntKind.max, IntKind.signed, IntKind.bits] at this
          omega
        · have := (hii i (by omega)).2
          simp [Lit.wf, IntKind.min, IntKind.max, IntKind.signed, IntKind.bits] at this
          omega
        · have c0 := hcell i (by omega) 0 (by omega)
          have c1 := hcell i (by omega) 1 (by omega)
          have c2 := hcell i (by omega) 2 (by omega)
          have c3 := hcell i (by omega) 3 (by omega)
          have c4 := hcell i (by omega) 4 (by omega)
          have c5 := hcell i (by omega) 5 (by omega)
          rw [(hkd i (by omega)).1] at c0
          rw [(hka i (by omega)).1] at c1
          rw [(hkb i (by omega)).1] at c2
          rw [(hii i (by omega)).1] at c3
          rw [(hhp i (by omega)).1] at c4
          rw [(hht i (by omega)).1] at c5
          refine ⟨x, e, ?_, c0, c1, c2, c3, c4, c5⟩
          have := World.block_lt_of_cell? w _ c1
          unfold Addr.add at this
          split at this <;> exact this
  · exact lplays_long P p len cap tm w (by omega)
end Go.Proofs.Ytpkadbjgkoijiaa
