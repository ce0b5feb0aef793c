import Derived.Test.YtkglaklkbodjkaaWh6
namespace Go.Proofs.Ytkglaklkbodjkaa
open Go.RowKit Wh

/-- The items of a slot, each laid at a level behind what lies there: slots in one row. -/
def laidF (due : Int → Nat) (lv : Nat) (ids : List Int) (sl : Nat → List Int) : Nat → List Int :=
  fun i => if i / 16 = lv then sl i ++ ids.filter (fun x => decide (dig (due x) lv = i % 16)) else sl i
theorem laidF_nil (due : Int → Nat) (lv : Nat) (sl : Nat → List Int) : laidF due lv [] sl = sl := by
  funext i
  unfold laidF
  split <;> simp
theorem laidF_snoc (due : Int → Nat) (lv : Nat) (ids : List Int) (sl : Nat → List Int) (x : Int) (D : Nat) (hD : dig (due x) lv = D) (hD2 : D < 16) :
    at1 (laidF due lv ids sl) (16 * lv + D) (laidF due lv ids sl (16 * lv + D) ++ [x]) = laidF due lv (ids ++ [x]) sl := by
  funext i
  unfold at1
  by_cases e : i = 16 * lv + D
  · subst e
    rw [if_pos rfl]
    unfold laidF
    rw [if_pos (by omega), if_pos (by omega), List.filter_append, ← List.append_assoc]
    congr 1
    rw [show (16 * lv + D) % 16 = D by omega]
    simp [hD]
  · rw [if_neg e]
    unfold laidF
    by_cases e2 : i / 16 = lv
    · rw [if_pos e2, if_pos e2, List.filter_append]
      have : ¬ D = i % 16 := by omega
      simp [hD, this]
    · rw [if_neg e2, if_neg e2]
theorem laidF_len (due : Int → Nat) (lv : Nat) (ids : List Int) (sl : Nat → List Int) (i : Nat) : (laidF due lv ids sl i).length ≤ (sl i).length + ids.length := by
  unfold laidF
  split
  · rw [List.length_append]
    have := List.length_filter_le (fun x => decide (dig (due x) lv = i % 16)) ids
    omega
  · omega
/-- One level's dealing, slots in one row. -/
def dealF (due : Int → Nat) (now q : Nat) (sl : Nat → List Int) : Nat → List Int :=
  if now % 16 ^ q = 0 then laidF due (q - 1) (sl (16 * q + dig now q)) (at1 sl (16 * q + dig now q) []) else sl
/-- All levels above q are dealt. -/
def dealtF (due : Int → Nat) (now : Nat) (sl : Nat → List Int) : Nat → Nat → List Int
  | 3 => sl
  | 2 => dealF due now 3 sl
  | 1 => dealF due now 2 (dealF due now 3 sl)
  | _ => dealF due now 1 (dealF due now 2 (dealF due now 3 sl))
/-- A row's numbers all have a tick. -/
def Has (f : Int → Option Int) (due : Int → Nat) (ids : List Int) : Prop := ∀ x ∈ ids, isI x ∧ f x = some ((due x : Nat) : Int) ∧ due x < 1099511627776
section
variable {B H Mb now n : Nat} {f : Int → Option Int} {sz : Nat} {sv : Nat → Value} {sl : Nat → List Int}
/-- All slots are so: short, and of known numbers. -/
def Ok (f : Int → Option Int) (due : Int → Nat) (b : Nat) (sl : Nat → List Int) : Prop := ∀ j, j < 64 → (sl j).length ≤ b ∧ Has f due (sl j)
theorem Ok.deal {due : Int → Nat} {b : Nat} (h : Ok f due b sl) (q : Nat) (hq : q < 4) : Ok f due (b + b) (dealF due now q sl) := by
  unfold dealF
  split
  · intro j hj
    have hd := dig_lt now q
    have h1 := h (16 * q + dig now q) (by omega)
    have h2 : (at1 sl (16 * q + dig now q) [] j).length ≤ b ∧ Has f due (at1 sl (16 * q + dig now q) [] j) := by
      by_cases e : j = 16 * q + dig now q
      · rw [e, at1_same]; exact ⟨Nat.zero_le _, fun x hx => by cases hx⟩
      · rw [at1_other _ _ e]; exact h j hj
    refine ⟨Nat.le_trans (laidF_len _ _ _ _ _) (by have := h1.1; have := h2.1; omega), fun x hx => ?_⟩
    unfold laidF at hx
    split at hx
    · rw [List.mem_append] at hx
      rcases hx with hx | hx
      · exact h2.2 x hx
      · exact h1.2 x (List.mem_filter.1 hx).1
    · exact h2.2 x hx
  · exact fun j hj => ⟨by have := (h j hj).1; omega, (h j hj).2⟩
end
end Go.Proofs.Ytkglaklkbodjkaa
