import Derived.Test.YtabmjaioejacaaaQueA
namespace Go.Proofs.Ytabmjaioejacaaa
open Go.RowKit Kt

theorem firstZ_succ (zs : List Int) (k : Nat) (h : k < zs.length) : firstZ (zs.take (k + 1)) = min (firstZ (zs.take k)) (clampZ (zs[k]?.getD 0)) := by
  unfold firstZ
  rw [List.take_succ_eq_append_getElem h, List.foldl_append]
  simp [List.getElem?_eq_getElem h]

set_option maxHeartbeats 400000 in
theorem first_nil (w : World) :
    Calls Try.prog 37 #[.slice none 0 0] w fun e w' => e = .returned (.int .i64 4611686018427387903) ∧ w' = w := by
  go_enter Try.func37, Try.ntmps37
  go_wp2
  go_outline
  go_loop [3, 8] (fun m i => m = .int .i64 4611686018427387903 ∧ i = .int .i64 0) (fun _ _ => 0)
  case atStart => exact ⟨rfl, rfl⟩
  case round =>
    obtain ⟨rfl, rfl⟩ := hrel
    go_wp2
    go_ret
    exact ⟨rfl, rfl⟩

set_option maxHeartbeats 400000 in
theorem first_some (b off len cap : Nat) (zs : List Int) (w : World) (hl : len ≤ zs.length) (hm : len ≤ 9223372036854775807)
    (hc : ∀ k, k < len → w.cell? ⟨b, off + k, none⟩ = some (.int .i64 (zs[k]?.getD 0))) :
    Calls Try.prog 37 #[.slice (some ⟨b, off, none⟩) len cap] w fun e w' => e = .returned (.int .i64 (firstZ (zs.take len))) ∧ w' = w := by
  go_enter Try.func37, Try.ntmps37
  go_wp2
  go_loop [3, 8] (fun m i => ∃ k : Nat, k ≤ len ∧ i = .int .i64 k ∧ m = .int .i64 (firstZ (zs.take k))) (fun _ i => len - (intOf i).toNat)
  case atStart => exact ⟨0, Nat.zero_le _, rfl, rfl⟩
  case round =>
    obtain ⟨k, hk, rfl, rfl⟩ := hrel
    by_cases hlt : k < len
    · have hcell := hc k hlt
      have HS := hide (firstZ_succ zs k (by omega))
      clear hc
      go_wp2_with (go_at_call 41; refine (kclamp_any _ _).mono ?_; rintro e w' ⟨rfl, rfl⟩)
      all_goals
        go_round
        case rel => exact ⟨k + 1, by omega, by go_num, by rw [unhide HS]; congr 1; omega⟩
        case measure => simp [intOf]; omega
    · go_wp2
      go_ret
      exact ⟨ret_int (by rw [show k = len from by omega]), rfl⟩
end Go.Proofs.Ytabmjaioejacaaa
