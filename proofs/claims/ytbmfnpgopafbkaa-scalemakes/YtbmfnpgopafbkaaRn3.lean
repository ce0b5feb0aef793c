import Derived.Test.YtbmfnpgopafbkaaRn2
namespace Go.Proofs.Ytbmfnpgopafbkaa
open Go.RowKit Kt

theorem IRow.weak {w : World} {B B' g n cap : Nat} {ds : List Int} (h : IRow w B g n cap ds) (hB : B' ≤ B) : IRow w B' g n cap ds := by
  obtain ⟨h1, h2, h3⟩ := h
  refine ⟨h1, h2, ?_⟩
  rcases h3 with h3 | ⟨g', cap', cur, h4, h5, h6⟩
  · exact .inl h3
  · exact .inr ⟨g', cap', cur, h4, by omega, h6⟩
theorem val_drop (ds : List Int) (j : Nat) (h : j < ds.length) : val (ds.drop j) = ds.getD j 0 + 65536 * val (ds.drop (j + 1)) := by
  rw [List.drop_eq_getElem_cons h]
  simp [val, List.getD, List.getElem?_eq_getElem h]
theorem val_nn (ds : List Int) (h : ∀ j, 0 ≤ ds.getD j 0) : 0 ≤ val ds := by
  induction ds with
  | nil => simp [val]
  | cons d t ih =>
    have h0 := h 0
    have := ih (fun j => by have := h (j + 1); simpa using this)
    simp only [val]
    simp at h0
    omega
theorem val_top (ds : List Int) (j : Nat) (h : ∀ j, 0 ≤ ds.getD j 0) : 65536 ^ j * val (ds.drop j) ≤ val ds := by
  induction ds generalizing j with
  | nil => simp [val]
  | cons d t ih =>
    have h0 : 0 ≤ d := by simpa using h 0
    have ht : ∀ j, 0 ≤ t.getD j 0 := fun j => by have := h (j + 1); simpa using this
    cases j with
    | zero => simp
    | succ j =>
      have := ih j ht
      simp only [List.drop_succ_cons, val]
      rw [Int.pow_succ, Int.mul_right_comm]
      omega

set_option maxRecDepth 100000 in
set_option maxHeartbeats 1000000 in
theorem rnanos_any (F c : Int) (S : Nat) (w : World) (hF0 : 1 ≤ F) (hF1 : F ≤ 4294967295) (hS : S ≤ 32) :
    Calls Try.prog 24 #[.int .i64 F, .int .i64 (S : Int), .int .i64 c] w fun e w' => e = .returned (.int .i64 (nanosZ F S c)) ∧ Below w.heap.size w w' := by
  have hc := capZ_bd c
  have hcap : capZ c = min (max c 0) 4611686018427387903 := rfl
  have hX : nanosZ F S c = min (F * capZ c / 2 ^ S) 4611686018427387903 := by
    unfold nanosZ
    rw [if_pos (by simp [sclB]; omega), Int.mul_comm]
    simp
  rw [hX]
  obtain ⟨b, hb⟩ : ∃ b, w.heap.size = b := ⟨_, rfl⟩
  have hcs : (c < 0 ∧ capZ c = 0) ∨ (0 ≤ c ∧ c ≤ 4611686018427387903 ∧ capZ c = c) ∨ (0 ≤ c ∧ 4611686018427387903 < c ∧ capZ c = 4611686018427387903) := by omega
  clear hX hcap
  obtain ⟨X, hXd⟩ : ∃ X, F * capZ c = X := ⟨_, rfl⟩
  rw [hXd]
  rcases hcs with ⟨h1, h2⟩ | ⟨h1, h1', h2⟩ | ⟨h1, h1', h2⟩
  all_goals
    rw [h2] at hc hXd
    have HX := hide hXd
    clear h2 hXd
    go_enter Try.func24, Try.ntmps24
    go_wp2_with (go_at_call 35; refine Hid.out ?_)
    refine hide ?_
    refine (rprod_any _ _ _ (by omega) hF1 hc.1 hc.2).mono ?_
    rintro e w1 ⟨ds0, rfl, hrow0, hdig0, hval0, hbel0⟩
    rw [hb] at hrow0 hbel0
    rw [unhide HX] at hval0
    have HV0 := hide hval0
    clear hval0
    go_wp2_with fail
    go_loopw [7, 8] (fun t7 t8 wr => ∃ (k g cap : Nat) (ds : List Int), k ≤ S ∧ t8 = .int .i64 k ∧ t7 = .slice (some ⟨g, 0, none⟩) 9 cap ∧ IRow wr b g 9 cap ds ∧ Dig 9 ds ∧ Below b w wr ∧ Hid (val ds = X / 2 ^ k)) (fun _ t8 _ => S - (intOf t8).toNat)
    case atStart => exact ⟨0, b, 9, ds0, by omega, rfl, rfl, hrow0, hdig0, hbel0, hide (by rw [unhide HV0]; simp)⟩
    case round =>
      obtain ⟨k, g, cap, ds, hk, rfl, rfl, hrow, hdig, hbel, hval⟩ := hrel
      by_cases hlt : k < S
      · go_wp2_with (go_at_call 36; refine Hid.out ?_)
        refine hide ?_
        refine (rhalf_any b g cap ds wr hrow hdig).mono ?_
        rintro e w2 ⟨g', cap', es, rfl, hrow', hdig', hval', hbel'⟩
        have hsz := hbel.size
        have hrow2 := hrow'.weak (B' := b) (by omega)
        have hbel2 := hbel.trans (hbel'.mono (B' := b) (by omega))
        have hval2 : val es = X / 2 ^ (k + 1) := by
          rw [hval', unhide hval, Int.pow_succ, Int.ediv_ediv_of_nonneg (Int.le_of_lt (Int.pow_pos (by omega)))]
        have HV2 := hide hval2
        clear hval2 hval' hbel' hrow' hsz
        go_wp2_with fail
        go_roundw
        case rel => exact ⟨k + 1, g', cap', es, by omega, by go_num, rfl, hrow2, hdig', hbel2, HV2⟩
        case measure => simp [intOf]; omega
      · obtain rfl : k = S := by omega
        have hnn := hide (val_nn ds (fun j => (hdig.2 j).1))
        have htop := hide (fun j => val_top ds j (fun j => (hdig.2 j).1))
        have hdrop := hide (fun j (h : j < 9) => val_drop ds j (by rw [hdig.1]; exact h))
        go_wp2_with fail
        go_loop [9, 10] (fun t9 t10 => ∃ (j : Nat) (n : Int), j ≤ 9 ∧ t10 = .int .i64 ((j : Int) - 1) ∧ t9 = .int .i64 n ∧ Hid (n = val (ds.drop j)) ∧ 0 ≤ n ∧ n ≤ 4611686018427387903 ∧ (j = 9 → n = 0)) (fun _ t10 => (intOf t10 + 1).toNat)
        case atStart => exact ⟨9, 0, by omega, rfl, rfl, hide (by rw [List.drop_of_length_le (by rw [hdig.1]; omega)]; rfl), by omega, by omega, fun _ => rfl⟩
        case round =>
          obtain ⟨j, n, hj, rfl, rfl, hn, hn0, hn1, hn9⟩ := hrel
          cases j with
          | zero =>
            go_wp2_with fail
            go_ret
            have e1 := unhide hn
            rw [List.drop_zero, unhide hval] at e1
            exact ⟨ret_int (by omega), hbel⟩
          | succ i =>
            have hcell := hrow.cell i (by omega)
            have hd := hdig.2 i
            have hdr := unhide hdrop i (by omega)
            obtain ⟨d, hdd⟩ : ∃ d, ds.getD i 0 = d := ⟨_, rfl⟩
            rw [hdd] at hcell hd hdr
            rw [← unhide hn] at hdr
            have HD := hide hdr
            clear hdr hdd
            by_cases hbig : 70368744177664 ≤ n
            · have hi8 : i < 8 := by
                by_cases h : i = 8
                · subst h; have := hn9 rfl; omega
                · omega
              have ht := unhide htop (i + 1)
              have hp : (65536 : Int) ≤ 65536 ^ (i + 1) := by
                rw [Int.pow_succ]
                have : (0 : Int) < 65536 ^ i := Int.pow_pos (by omega)
                omega
              have hm : 65536 * 70368744177664 ≤ 65536 ^ (i + 1) * n := Int.mul_le_mul hp hbig (by omega) (by omega)
              rw [← unhide hn, unhide hval] at ht
              have hfin : 4611686018427387903 ≤ X / 2 ^ k := by omega
              have HF := hide hfin
              clear ht hp hm hfin hn9
              by_cases hd0 : 0 < d
              all_goals
                go_wp2_with fail
                go_ret
                exact ⟨ret_int (by have := unhide HF; omega), hbel⟩
            · clear hn9
              have hbig' : decide (70368744177664 ≤ n) = false := by simp; omega
              go_wp2_with fail
              go_round
              case rel =>
                have h2 := unhide HD
                exact ⟨i, n * 65536 + d, by omega, by go_num, rfl, hide (by rw [h2]; omega), by omega, by omega, fun h => by omega⟩
              case measure => simp [intOf]
end Go.Proofs.Ytbmfnpgopafbkaa
