/- Plain mathematics of the document's way to read a set's text, byte by byte. No program in sight. -/
import Derived.Test.YtcbdbkdnindaoaaDoorMkMath2
import Derived.Test.YtcbdbkdnindaoaaDoorDgMath
namespace Go.Proofs.YtcbdbkdnindaoaaDoor.Mk
open Go.Lib Dg

/-- A number of one or two digits that is a processor; -1. -/
def numZ (l : List UInt8) : Int := if l.length < 1 ∨ 2 < l.length then -1 else match numL l 0 with
  | some v => if 15 < v then -1 else (v : Int)
  | none => -1
theorem numZ_bd (l : List UInt8) : -1 ≤ numZ l ∧ numZ l ≤ 15 := by
  unfold numZ
  split
  · omega
  · split
    · split <;> omega
    · omega
/-- The bounds that a part tells: the last dash counts. -/
def lhN (p : List UInt8) : Nat → Int × Int
  | 0 => (numZ p, numZ p)
  | k + 1 => if p[k]? = some 45 then (numZ (p.take k), numZ (p.drop (k + 1))) else lhN p k
theorem lhN_bd (p : List UInt8) : ∀ k, -1 ≤ (lhN p k).1 ∧ (lhN p k).1 ≤ 15 ∧ -1 ≤ (lhN p k).2 ∧ (lhN p k).2 ≤ 15
  | 0 => ⟨(numZ_bd p).1, (numZ_bd p).2, (numZ_bd p).1, (numZ_bd p).2⟩
  | k + 1 => by
    unfold lhN
    split
    · exact ⟨(numZ_bd _).1, (numZ_bd _).2, (numZ_bd _).1, (numZ_bd _).2⟩
    · exact lhN_bd p k
theorem lh_fin : ∀ a b : Fin 16, lhN (pt (a.val, b.val)) (pt (a.val, b.val)).length = ((a.val : Int), (b.val : Int)) := by decide +kernel
theorem lh_pt (p : Nat × Nat) (h1 : p.1 ≤ 15) (h2 : p.2 ≤ 15) : lhN (pt p) (pt p).length = ((p.1 : Int), (p.2 : Int)) :=
  lh_fin ⟨p.1, by omega⟩ ⟨p.2, by omega⟩
/-- The first part of a row of parts. -/
theorem piece (q : Nat × Nat) (r : List (Nat × Nat)) (h1 : q.1 ≤ 15) (h2 : q.2 ≤ 15) (n : Nat) (hn : n ≤ (joinT (q :: r)).length) (hno : (44 : UInt8) ∉ (joinT (q :: r)).take n)
    (hat : n = (joinT (q :: r)).length ∨ (joinT (q :: r))[n]? = some 44) :
    (joinT (q :: r)).take n = pt q ∧ ((r = [] ∧ n = (joinT (q :: r)).length) ∨ (r ≠ [] ∧ n < (joinT (q :: r)).length ∧ (joinT (q :: r)).drop (n + 1) = joinT r)) := by
  have hp := pt_no44 q h1 h2
  by_cases hr : r = []
  · subst hr
    have e : joinT [q] = pt q := by unfold joinT; rw [if_pos rfl]
    rw [e] at hn hno hat ⊢
    rcases hat with h | h
    · subst h
      exact ⟨List.take_length, .inl ⟨rfl, rfl⟩⟩
    · exact absurd (List.mem_of_getElem? h) hp
  · have e : joinT (q :: r) = pt q ++ 44 :: joinT r := by
      rw [joinT, if_neg hr]
    rcases hat with h | h
    · subst h
      rw [List.take_length, e] at hno
      simp at hno
    · have hlt : n < (joinT (q :: r)).length := by
        by_cases c : n < (joinT (q :: r)).length
        · exact c
        · rw [List.getElem?_eq_none (by omega)] at h; cases h
      have hsp : joinT (q :: r) = (joinT (q :: r)).take n ++ 44 :: (joinT (q :: r)).drop (n + 1) := by
        have h3 : (joinT (q :: r))[n] = 44 := by rw [List.getElem?_eq_getElem hlt] at h; simpa using h
        rw [← h3, ← List.drop_eq_getElem_cons hlt, List.take_append_drop]
      have c1 := cut_in 44 _ ((joinT (q :: r)).drop (n + 1)) hno
      rw [← hsp, cut_join q r h1 h2] at c1
      simp only [Prod.mk.injEq] at c1
      exact ⟨c1.1.symm, .inr ⟨hr, hlt, c1.2.1.symm⟩⟩
/-- How far the document's reader is: what it has read of a row of parts. -/
def PI (l0 : List UInt8) (rs : List (Nat × Nat)) (i fr : Nat) (hv : Nat → Bool) : Prop :=
  ∃ d r, rs = d ++ r ∧ (∀ c, c < 16 → (hv c = true ↔ c ∈ flat d)) ∧
    ((r ≠ [] ∧ i ≤ l0.length ∧ fr ≤ i ∧ l0.drop fr = joinT r ∧ (44 : UInt8) ∉ (l0.drop fr).take (i - fr)) ∨ (r = [] ∧ i = l0.length + 1))
theorem PI.start {l0 : List UInt8} {rs : List (Nat × Nat)} (hr : rs ≠ []) (h : l0 = joinT rs) : PI l0 rs 0 0 (fun _ => false) :=
  ⟨[], rs, rfl, fun c _ => by simp [flat], .inl ⟨hr, Nat.zero_le _, Nat.le_refl _, h, by simp⟩⟩
theorem PI.skip {l0 : List UInt8} {rs : List (Nat × Nat)} {i fr : Nat} {hv : Nat → Bool} (h : PI l0 rs i fr hv) (hi : i < l0.length) (hne : l0[i]? ≠ some 44) : PI l0 rs (i + 1) fr hv := by
  obtain ⟨d, r, e, hb, h⟩ := h
  refine ⟨d, r, e, hb, ?_⟩
  rcases h with ⟨h1, h2, h3, h4, h5⟩ | ⟨h1, h2⟩
  · refine .inl ⟨h1, by omega, by omega, h4, ?_⟩
    rw [show i + 1 - fr = (i - fr) + 1 by omega, List.take_add_one, List.mem_append]
    rintro (h | h)
    · exact h5 h
    · rw [List.getElem?_drop, show fr + (i - fr) = i by omega] at h
      cases hx : l0[i]? with
      | none => rw [hx] at h; cases h
      | some x =>
        rw [hx] at h
        simp only [Option.toList_some, List.mem_singleton] at h
        exact hne (by rw [hx, h])
  · omega
theorem PI.part {l0 : List UInt8} {rs : List (Nat × Nat)} {i fr : Nat} {hv : Nat → Bool} {lo : Nat} (ok : Ok lo rs) (h : PI l0 rs i fr hv) (hi : i ≤ l0.length) (hat : i = l0.length ∨ l0[i]? = some 44) :
    ∃ a b : Nat, a ≤ b ∧ b ≤ 15 ∧ lhN ((l0.drop fr).take (i - fr)) ((l0.drop fr).take (i - fr)).length = ((a : Int), (b : Int)) ∧
      ∀ hv', (∀ c, c < 16 → hv' c = (hv c || (decide (a ≤ c) && decide (c ≤ b)))) → PI l0 rs (i + 1) (i + 1) hv' := by
  obtain ⟨d, r, e, hb, h⟩ := h
  rcases h with ⟨h1, h2, h3, h4, h5⟩ | ⟨h1, h2⟩
  · cases r with
    | nil => exact absurd rfl h1
    | cons q r =>
      have hok : ∃ lo2, Ok lo2 (q :: r) := by
        rw [e] at ok
        clear e hb
        induction d generalizing lo with
        | nil => exact ⟨lo, ok⟩
        | cons p t ih => exact ih ok.2.2.2
      obtain ⟨lo2, o1, o2, o3, o4⟩ := hok
      have hlen : (l0.drop fr).length = l0.length - fr := List.length_drop
      rw [h4] at h5 hlen ⊢
      obtain ⟨p1, p2⟩ := piece q r (by omega) o3 (i - fr) (by omega) h5 (by
        rcases hat with h | h
        · left; omega
        · right
          rw [← h4, List.getElem?_drop, show fr + (i - fr) = i by omega]; exact h)
      refine ⟨q.1, q.2, o2, o3, by rw [p1]; exact lh_pt q (by omega) o3, fun hv' hv2 => ?_⟩
      refine ⟨d ++ [q], r, by rw [e]; simp, fun c hc => ?_, ?_⟩
      · rw [hv2 c hc, flat_app, List.mem_append, show flat [q] = one q by simp [flat], mem_one, Bool.or_eq_true, hb c hc, Bool.and_eq_true, decide_eq_true_iff, decide_eq_true_iff]
      · rcases p2 with ⟨r0, hn⟩ | ⟨r0, hn, hd⟩
        · right
          exact ⟨r0, by omega⟩
        · left
          refine ⟨r0, by omega, Nat.le_refl _, ?_, by simp⟩
          rw [← hd, ← h4, List.drop_drop]
          congr 1
          omega
  · omega
/-- The number that 16 bits make, the highest first. -/
def vN (hv : Nat → Bool) : Nat → Nat
  | 0 => 0
  | k + 1 => vN hv k * 2 + if hv (15 - k) = true then 1 else 0
theorem vN_lt (hv : Nat → Bool) : ∀ k, vN hv k < 2 ^ k
  | 0 => by show 0 < 1; omega
  | k + 1 => by
    have := vN_lt hv k
    unfold vN
    rw [Nat.pow_succ]
    split <;> omega
theorem vN_bit (hv : Nat → Bool) : ∀ (k c : Nat), k ≤ 16 → c < k → (vN hv k).testBit c = hv (16 - k + c)
  | 0, c, _, h => by omega
  | k + 1, 0, hk, _ => by
    unfold vN
    rw [Nat.testBit_zero]
    rw [show 16 - (k + 1) + 0 = 15 - k by omega]
    cases h : hv (15 - k)
    · simp
    · simp
  | k + 1, c + 1, hk, hc => by
    unfold vN
    rw [Nat.testBit_succ]
    have : (vN hv k * 2 + if hv (15 - k) = true then 1 else 0) / 2 = vN hv k := by split <;> omega
    rw [this, vN_bit hv k c (by omega) (by omega)]
    congr 1
    omega
/-- What a reader that followed the parts has read. -/
theorem PI.done {l0 : List UInt8} {rs : List (Nat × Nat)} {fr : Nat} {hv : Nat → Bool} (h : PI l0 rs (l0.length + 1) fr hv) (M : Nat) (hM : M < 65536) (hf : flat rs = listOf M) : vN hv 16 = M := by
  obtain ⟨d, r, e, hb, h⟩ := h
  have hr : r = [] := by
    rcases h with ⟨h1, h2, _⟩ | ⟨h1, _⟩
    · omega
    · exact h1
  subst hr
  rw [List.append_nil] at e
  subst e
  have hv16 : vN hv 16 < 65536 := vN_lt hv 16
  apply Nat.eq_of_testBit_eq
  intro c
  by_cases hc : c < 16
  · rw [vN_bit hv 16 c (by omega) hc, Bool.eq_iff_iff, show 16 - 16 + c = c by omega, hb c hc, hf, mem_list]
    exact ⟨fun h => h.2, fun h => ⟨hc, h⟩⟩
  · have hp : 65536 ≤ 2 ^ c := show 2 ^ 16 ≤ 2 ^ c from Nat.pow_le_pow_right (by omega) (by omega)
    rw [Nat.testBit_lt_two_pow (Nat.lt_of_lt_of_le hv16 hp), Nat.testBit_lt_two_pow (Nat.lt_of_lt_of_le hM hp)]
/-- A text of a set that isn't '-' is a row of parts. -/
theorem text_parts (M : Nat) (l0 : List UInt8) (h : textOf M = l0) (hne : l0 ≠ [45]) : ∃ rs, rs ≠ [] ∧ Ok 0 rs ∧ l0 = joinT rs ∧ flat rs = listOf M := by
  obtain ⟨rs, ok, hf⟩ := runs_of M
  rw [textOf_runs M rs ok hf] at h
  unfold textR at h
  by_cases e : rs = []
  · rw [if_pos e] at h; exact absurd h.symm hne
  · rw [if_neg e] at h; exact ⟨rs, e, ok, h.symm, hf⟩
end Go.Proofs.YtcbdbkdnindaoaaDoor.Mk
