/- Digits as strconv.Atoi reads them. -/
import Derived.Test.YtcpehfjpdegmbaaDoorDgMath
import Derived.Lib.Atoi
namespace Go.Proofs.YtcpehfjpdegmbaaDoor
open Dg

theorem decFrom_num : ∀ (l : List UInt8) (a : Nat), Lib.decFrom a l = numL l a
  | [], _ => rfl
  | c :: r, a => by
    unfold Lib.decFrom Lib.digitVal
    rw [numL]
    by_cases h : 48 ≤ c.toNat ∧ c.toNat ≤ 57
    · rw [if_pos h, if_pos h]; exact decFrom_num r _
    · rw [if_neg h, if_neg h]
theorem atoi_num {l : List UInt8} {v : Nat} (hl : l ≠ []) (h : numL l 0 = some v) : Lib.atoi l = some (v : Int) := by
  cases l with
  | nil => exact absurd rfl hl
  | cons b r =>
    have hb : 48 ≤ b.toNat ∧ b.toNat ≤ 57 := by
      rw [numL] at h
      by_cases c : 48 ≤ b.toNat ∧ b.toNat ≤ 57
      · exact c
      · rw [if_neg c] at h; cases h
    have h45 : (b == 45) = false := by
      rw [beq_eq_false_iff_ne]; intro e; subst e; exact absurd hb (by decide)
    have h43 : (b == 43) = false := by
      rw [beq_eq_false_iff_ne]; intro e; subst e; exact absurd hb (by decide)
    unfold Lib.atoi
    show (if (b == 45) = true then _ else if (b == 43) = true then _ else _) = _
    rw [h45, h43]
    rw [if_neg (by decide), if_neg (by decide)]
    unfold Lib.decNat
    rw [if_neg (by simp), decFrom_num, h]
    rfl
end Go.Proofs.YtcpehfjpdegmbaaDoor
