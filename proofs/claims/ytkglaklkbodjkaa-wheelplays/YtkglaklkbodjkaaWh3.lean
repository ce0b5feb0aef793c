import Derived.Test.YtkglaklkbodjkaaWh2
namespace Go.Proofs.Ytkglaklkbodjkaa
open Go.RowKit Wh

section
variable {B H Mb now n : Nat} {f : Int → Option Int} {sz : Nat} {sv : Nat → Value} {sl : Nat → List Int}
set_option maxRecDepth 100000 in
set_option maxHeartbeats 1000000 in
theorem take_at (w : World) (h : Whl w B H Mb now n f sz sv sl) (hnow : now < 1099511627776) (lv D : Nat) (hlv : lv < 4) (hD : dig now lv = D) (hD2 : D < 16) :
    Calls Try.prog 63 #[.pointer (some ⟨H, 0, none⟩), .int .i64 (lv : Int)] w fun e w' => e = .returned (sv (16 * lv + D)) ∧ ∃ m, w' = (w.drewN m).setCell ⟨H, 2 + (16 * lv + D), none⟩ (.slice none 0 0) := by
  have c0 := h.c0
  have cs := h.cs (16 * lv + D) (by omega)
  have fr := h.blk.free (2 + (16 * lv + D))
  have hd := digit_any now lv hnow hlv
  rw [hD] at hd
  obtain ⟨a, cap, hf, -⟩ := (h.rows (16 * lv + D) (by omega)).form
  clear h hD
  generalize sv (16 * lv + D) = V at *
  generalize (sl (16 * lv + D)).length = len at *
  subst hf
  rcases (show lv = 0 ∨ lv = 1 ∨ lv = 2 ∨ lv = 3 by omega) with rfl | rfl | rfl | rfl
  · rw [show 2 + (16 * 0 + D) = 2 + D by omega] at *
    go_enter Try.func63, Try.ntmps63
    go_wp2
    go_quiet (first | (go_at_call 52; exact Calls.quiet_of_same (hd _)))
    go_wp2
    go_ret
    exact ⟨rfl, nq, rfl⟩
  · rw [show 2 + (16 * 1 + D) = 18 + D by omega] at *
    go_enter Try.func63, Try.ntmps63
    go_wp2
    go_quiet (first | (go_at_call 52; exact Calls.quiet_of_same (hd _)))
    go_wp2
    go_ret
    exact ⟨rfl, nq, rfl⟩
  · rw [show 2 + (16 * 2 + D) = 34 + D by omega] at *
    go_enter Try.func63, Try.ntmps63
    go_wp2
    go_quiet (first | (go_at_call 52; exact Calls.quiet_of_same (hd _)))
    go_wp2
    go_ret
    exact ⟨rfl, nq, rfl⟩
  · rw [show 2 + (16 * 3 + D) = 50 + D by omega] at *
    go_enter Try.func63, Try.ntmps63
    go_wp2
    go_quiet (first | (go_at_call 52; exact Calls.quiet_of_same (hd _)))
    go_wp2
    go_ret
    exact ⟨rfl, nq, rfl⟩
end
end Go.Proofs.Ytkglaklkbodjkaa
