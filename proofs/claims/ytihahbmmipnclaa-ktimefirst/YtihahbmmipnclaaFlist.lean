import Derived.Test.YtihahbmmipnclaaFixed
import Derived.OpenShut
import Derived.Below
namespace Go.Proofs.Ytihahbmmipnclaa
open Go.RowKit Kt

set_option maxHeartbeats 400000 in
theorem first_empty (a : Option Addr) (cap : Nat) (w : World) :
    Calls Try.prog 19 #[.slice a 0 cap] w fun e w' => e = .returned (.int .i64 4611686018427387903) ∧ w' = w := by
  go_enter Try.func19, Try.ntmps19
  go_wp2
  go_loop [3, 8] (fun m i => m = .int .i64 4611686018427387903 ∧ i = .int .i64 0) (fun _ _ => 0)
  case atStart => exact ⟨rfl, rfl⟩
  case round =>
    obtain ⟨rfl, rfl⟩ := hrel
    go_wp2
    go_ret
    exact ⟨rfl, rfl⟩

theorem firstZ_le_max (l : List Int) (m : Int) : l.foldl (fun m t => min m (clampZ t)) m ≤ m := by
  induction l generalizing m with
  | nil => exact Int.le_refl _
  | cons x r ih => exact Int.le_trans (ih _) (Int.min_le_left _ _)
theorem foldl_le (l : List Int) (m : Int) : ∀ x ∈ l, l.foldl (fun m t => min m (clampZ t)) m ≤ clampZ x := by
  induction l generalizing m with
  | nil => intro x hx; cases hx
  | cons y r ih =>
    intro x hx
    rcases List.mem_cons.1 hx with rfl | hx
    · exact Int.le_trans (firstZ_le_max r _) (Int.min_le_right _ _)
    · exact ih _ x hx
theorem foldl_there (l : List Int) (m : Int) : l.foldl (fun m t => min m (clampZ t)) m = m ∨ ∃ x ∈ l, clampZ x = l.foldl (fun m t => min m (clampZ t)) m := by
  induction l generalizing m with
  | nil => exact .inl rfl
  | cons y r ih =>
    rcases ih (min m (clampZ y)) with h | ⟨x, hx, h⟩
    · by_cases hm : m ≤ clampZ y
      · left; rw [List.foldl_cons, h]; omega
      · right; exact ⟨y, List.mem_cons_self, by rw [List.foldl_cons, h]; omega⟩
    · right; exact ⟨x, List.mem_cons_of_mem _ hx, h⟩
/-- A cell that is there lies in a block that is there. -/
theorem cell_block {w : World} {a : Addr} {v : Value} (h : w.cell? a = some v) : a.block < w.heap.size := by
  by_cases h' : a.block < w.heap.size
  · exact h'
  · simp [World.cell?, Array.getElem?_eq_none (Nat.le_of_not_lt h')] at h
/-- Whether one of these is t. -/
def thereB (l : List Int) (t : Int) : Bool := (t == 4611686018427387903) || l.any (fun x => clampZ x == t)
theorem thereB_succ (zs : List Int) (k : Nat) (t : Int) (h : k < zs.length) : thereB (zs.take (k + 1)) t = (thereB (zs.take k) t || (clampZ (zs[k]?.getD 0) == t)) := by
  unfold thereB
  rw [List.take_succ_eq_append_getElem h, List.any_append]
  simp [List.getElem?_eq_getElem h, Bool.or_assoc]
theorem thereB_first (l : List Int) : thereB l (firstZ l) = true := by
  unfold thereB firstZ
  rcases foldl_there l 4611686018427387903 with h | ⟨x, hx, h⟩
  · rw [h]; rfl
  · rw [Bool.or_eq_true]; right; rw [List.any_eq_true]; exact ⟨x, hx, by rw [beq_iff_eq]; exact h⟩
theorem first_le (zs : List Int) (len k : Nat) (hk : k < len) (hl : len ≤ zs.length) : firstZ (zs.take len) ≤ clampZ (zs[k]?.getD 0) := by
  refine foldl_le _ _ _ ?_
  have : zs[k]?.getD 0 = zs[k]'(by omega) := by simp [List.getElem?_eq_getElem (show k < zs.length by omega)]
  rw [this, List.mem_take_iff_getElem]
  exact ⟨k, by omega, rfl⟩

set_option maxHeartbeats 1000000 in
theorem flist_big (a : Option Addr) (len cap : Nat) (w : World) (h : 200 < len) (hm : len ≤ 9223372036854775807) :
    Calls Try.prog 5 #[.slice a len cap] w fun e w' => e = .returned (.bool true) ∧ w' = w.alloc (.cells #[.int .i64 4, .int .i64 2, .int .i64 9] 3) := by
  go_enter Try.func5, Try.ntmps5
  go_wp2_with (go_at_call 7; refine (fixed_any _).mono ?_; rintro e w' ⟨rfl, rfl⟩)
  go_ret
  exact ⟨rfl, rfl⟩

set_option maxHeartbeats 1000000 in
theorem flist_empty (a : Option Addr) (cap : Nat) (w : World) :
    Calls Try.prog 5 #[.slice a 0 cap] w fun e w' => e = .returned (.bool true) ∧ w' = w.alloc (.cells #[.int .i64 4, .int .i64 2, .int .i64 9] 3) := by
  go_enter Try.func5, Try.ntmps5
  go_wp2_with (first | (go_at_call 7; refine (fixed_any _).mono ?_; rintro e w' ⟨rfl, rfl⟩) | (go_at_call 19; refine (first_empty _ _ _).mono ?_; rintro e w' ⟨rfl, rfl⟩))
  go_loop [4, 18] (fun m i => m = .bool true ∧ i = .int .i64 0) (fun _ _ => 0)
  case atStart => exact ⟨rfl, rfl⟩
  case round =>
    obtain ⟨rfl, rfl⟩ := hrel
    go_wp2
    go_ret
    exact ⟨rfl, rfl⟩

set_option maxHeartbeats 1000000 in
theorem flist_some (b off len cap : Nat) (zs : List Int) (w : World) (hl : len ≤ zs.length) (h2 : len ≤ 200)
    (hc : ∀ k, k < len → w.cell? ⟨b, off + k, none⟩ = some (.int .i64 (zs[k]?.getD 0))) (hb : b < w.heap.size) :
    Calls Try.prog 5 #[.slice (some ⟨b, off, none⟩) len cap] w fun e w' => e = .returned (.bool true) ∧ w' = w.alloc (.cells #[.int .i64 4, .int .i64 2, .int .i64 9] 3) := by
  have hc2 : ∀ k, k < len → (w.alloc (.cells #[.int .i64 4, .int .i64 2, .int .i64 9] 3)).cell? ⟨b, off + k, none⟩ = some (.int .i64 (zs[k]?.getD 0)) := by
    intro k hk
    rw [← hc k hk]
    exact ((Below.refl w.heap.size w).alloc (Nat.le_refl _) _).cell (p := ⟨b, off + k, none⟩) hb
  have HC := hide hc2
  clear hc hc2
  obtain ⟨t, ht⟩ : ∃ t, firstZ (zs.take len) = t := ⟨_, rfl⟩
  have hf := first_some b off len cap zs (w.alloc (.cells #[.int .i64 4, .int .i64 2, .int .i64 9] 3)) hl (by omega) (unhide HC)
  rw [ht] at hf
  have HF := hide hf
  have HL := hide (fun k hk => first_le zs len k hk hl)
  have HE := hide (thereB_first (zs.take len))
  rw [ht] at HL HE
  have HT := hide ht
  clear ht hf
  go_enter Try.func5, Try.ntmps5
  go_wp2_with (first | (go_at_call 7; refine (fixed_any _).mono ?_; rintro e w' ⟨rfl, rfl⟩) | (go_at_call 19; refine (unhide HF).mono ?_; rintro e w' ⟨rfl, rfl⟩))
  go_loop [4, 18] (fun m i => ∃ k : Nat, k ≤ len ∧ i = .int .i64 k ∧ m = .bool (thereB (zs.take k) t)) (fun _ i => len - (intOf i).toNat)
  case atStart => exact ⟨0, Nat.zero_le _, rfl, by simp [thereB]⟩
  case round =>
    obtain ⟨k, hk, rfl, rfl⟩ := hrel
    by_cases hlt : k < len
    · have hcell := unhide HC k hlt
      have hle := unhide HL k hlt
      have HS := hide (thereB_succ zs k t (by omega))
      cases hth : thereB (zs.take k) t
      all_goals
        rw [hth] at HS
        go_wp2_with (go_at_call 9; refine (rclamp_any _ _).mono ?_; rintro e w' ⟨rfl, rfl⟩)
        go_round
        case rel => exact ⟨k + 1, by omega, by go_num, by rw [unhide HS]; rfl⟩
        case measure => simp [intOf]; omega
    · have hkl : k = len := by omega
      subst hkl
      have hth := unhide HE
      go_wp2
      go_ret
      exact ⟨rfl, rfl⟩
end Go.Proofs.Ytihahbmmipnclaa
