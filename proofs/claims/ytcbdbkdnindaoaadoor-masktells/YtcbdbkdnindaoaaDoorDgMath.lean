/- Plain mathematics of decimal digits as lists of bytes. No program in sight. -/
import Derived.Lib.ItoaNum
import Derived.Lib.IndexMore
namespace Go.Proofs.YtcbdbkdnindaoaaDoor.Dg
open Go.Lib

/-- The number that digits tell, from acc on; none: one of them is no digit. -/
def numL : List UInt8 → Nat → Option Nat
  | [], acc => some acc
  | c :: r, acc => if 48 ≤ c.toNat ∧ c.toNat ≤ 57 then numL r (acc * 10 + (c.toNat - 48)) else none
/-- Just k digits of v. -/
def padTo : Nat → Nat → List UInt8
  | 0, _ => []
  | k + 1, v => padTo k (v / 10) ++ [UInt8.ofNat (48 + v % 10)]

theorem numL_snoc (c : UInt8) : ∀ (l : List UInt8) (a : Nat), numL (l ++ [c]) a = (numL l a).bind fun v => if 48 ≤ c.toNat ∧ c.toNat ≤ 57 then some (v * 10 + (c.toNat - 48)) else none
  | [], a => by simp only [List.nil_append, numL, Option.bind_some]
  | b :: r, a => by
    simp only [List.cons_append, numL]
    split
    · exact numL_snoc c r _
    · rfl
theorem digit_toNat (d : Nat) (h : d < 10) : (UInt8.ofNat (48 + d)).toNat = 48 + d := by
  simp [UInt8.toNat_ofNat']; omega
theorem padTo_length : ∀ (k v : Nat), (padTo k v).length = k
  | 0, _ => rfl
  | k + 1, v => by simp [padTo, padTo_length k]
theorem numL_padTo : ∀ (k v : Nat), v < 10 ^ k → numL (padTo k v) 0 = some v
  | 0, v, h => by have : v = 0 := by simpa using h
                  subst this; rfl
  | k + 1, v, h => by
    have h' : v < 10 ^ k * 10 := by rw [← Nat.pow_succ]; exact h
    rw [padTo, numL_snoc, numL_padTo k (v / 10) (by omega), Option.bind_some, digit_toNat _ (by omega), if_pos (by omega)]
    congr 1; omega
theorem numL_some : ∀ (n : Nat) (l : List UInt8) (v : Nat), l.length = n → numL l 0 = some v → l = padTo n v ∧ v < 10 ^ n := by
  intro n
  induction n with
  | zero =>
    intro l v hl h
    have : l = [] := List.length_eq_zero_iff.1 hl
    subst this
    simp only [numL, Option.some.injEq] at h
    subst h
    exact ⟨rfl, by decide⟩
  | succ n ih =>
    intro l v hl h
    have hne : l ≠ [] := by intro e; subst e; simp at hl
    obtain ⟨m, c, rfl⟩ : ∃ m c, l = m ++ [c] := ⟨l.dropLast, l.getLast hne, (List.dropLast_concat_getLast hne).symm⟩
    rw [numL_snoc] at h
    cases hm : numL m 0 with
    | none => rw [hm] at h; simp at h
    | some u =>
      rw [hm, Option.bind_some] at h
      split at h
      · rename_i hc
        obtain ⟨e1, e2⟩ := ih m u (by simpa using hl) hm
        simp only [Option.some.injEq] at h
        have hp : 10 ^ (n + 1) = 10 ^ n * 10 := Nat.pow_succ 10 n
        refine ⟨?_, by omega⟩
        rw [padTo]
        have d1 : v / 10 = u := by omega
        have d2 : v % 10 = c.toNat - 48 := by omega
        rw [d1, d2, ← e1]
        congr 2
        apply UInt8.toNat_inj.1
        rw [digit_toNat _ (by omega)]; omega
      · cases h
theorem decDigits_ge {v : Nat} (h : ¬ v < 10) : decDigits v = decDigits (v / 10) ++ [UInt8.ofNat (48 + v % 10)] := by rw [decDigits, dif_neg h]
theorem padTo_dec : ∀ (k v : Nat), v < 10 ^ (k + 1) → (10 ^ k ≤ v ∨ k = 0) → padTo (k + 1) v = decDigits v
  | 0, v, h, _ => by
    have h' : v < 10 := by simpa using h
    rw [decDigits_one h', padTo, padTo, Nat.mod_eq_of_lt h']; rfl
  | k + 1, v, h, h2 => by
    have h2' : 10 ^ (k + 1) ≤ v := by rcases h2 with h2 | h2 <;> omega
    have hp : 10 ^ (k + 1) = 10 ^ k * 10 := Nat.pow_succ 10 k
    have hp2 : 10 ^ (k + 1 + 1) = 10 ^ (k + 1) * 10 := Nat.pow_succ 10 (k + 1)
    have hpos : 0 < 10 ^ k := Nat.pow_pos (by decide)
    rw [decDigits_ge (by omega), padTo, padTo_dec k (v / 10) (by omega) (.inl (by omega))]
theorem dec_padTo (k : Nat) : ∀ (n : Nat), n < 10 ^ k → decDigits (10 ^ k + n) = 49 :: padTo k n := by
  induction k with
  | zero => intro n h; have : n = 0 := by simpa using h
            subst this; rw [decDigits_one (by decide)]; rfl
  | succ k ih =>
    intro n h
    have hp : 10 ^ (k + 1) = 10 ^ k * 10 := Nat.pow_succ 10 k
    have hpos : 0 < 10 ^ k := Nat.pow_pos (by decide)
    rw [decDigits_ge (by omega), show (10 ^ (k + 1) + n) / 10 = 10 ^ k + n / 10 by omega, show (10 ^ (k + 1) + n) % 10 = n % 10 by omega, ih (n / 10) (by omega), padTo]
    rfl
theorem padTo_head : ∀ (k v : Nat), v < 10 ^ (k + 1) → ∃ t, padTo (k + 1) v = UInt8.ofNat (48 + v / 10 ^ k) :: t
  | 0, v, h => ⟨[], by have h' : v < 10 := by simpa using h
                       rw [padTo, padTo, Nat.mod_eq_of_lt h']; simp⟩
  | k + 1, v, h => by
    have hp2 : 10 ^ (k + 1 + 1) = 10 ^ (k + 1) * 10 := Nat.pow_succ 10 (k + 1)
    obtain ⟨t, e⟩ := padTo_head k (v / 10) (by omega)
    refine ⟨t ++ [UInt8.ofNat (48 + v % 10)], ?_⟩
    rw [padTo, e, Nat.div_div_eq_div_mul, Nat.pow_succ, Nat.mul_comm 10]
    rfl
/-- Digits without a zero in front are the number's own. -/
theorem dec_of_num (l : List UInt8) (v : Nat) (hne : l ≠ []) (hp : l.length = 1 ∨ l.head? ≠ some 48) (h : numL l 0 = some v) : decDigits v = l := by
  obtain ⟨k, hk⟩ : ∃ k, l.length = k + 1 := ⟨l.length - 1, by have := List.length_pos_iff.2 hne; omega⟩
  obtain ⟨e1, e2⟩ := numL_some (k + 1) l v hk h
  rw [e1]
  refine (padTo_dec k v e2 ?_).symm
  rcases hp with hp | hp
  · exact .inr (by omega)
  · left
    obtain ⟨t, et⟩ := padTo_head k v e2
    rw [e1, et] at hp
    simp only [List.head?_cons, ne_eq, Option.some.injEq] at hp
    apply Nat.le_of_not_lt
    intro hlt
    apply hp
    rw [Nat.div_eq_of_lt hlt]
    rfl
theorem dec_ne (v : Nat) : decDigits v ≠ [] := by
  unfold decDigits; split <;> simp
theorem dec_digit : ∀ (v : Nat), ∀ c ∈ decDigits v, 48 ≤ c.toNat ∧ c.toNat ≤ 57 := by
  intro v
  induction v using Nat.strongRecOn with
  | ind v ih =>
    intro c hc
    by_cases h : v < 10
    · rw [decDigits_one h] at hc
      simp only [List.mem_singleton] at hc
      subst hc
      rw [digit_toNat _ h]; omega
    · rw [decDigits_ge h] at hc
      rcases List.mem_append.1 hc with hc | hc
      · exact ih (v / 10) (by omega) c hc
      · simp only [List.mem_singleton] at hc
        subst hc
        rw [digit_toNat _ (by omega)]; omega
theorem numL_dec (v : Nat) : numL (decDigits v) 0 = some v := by
  induction v using Nat.strongRecOn with
  | ind v ih =>
    by_cases h : v < 10
    · rw [decDigits_one h]
      simp only [numL]
      rw [digit_toNat _ h, if_pos (by omega)]
      congr 1; omega
    · rw [decDigits_ge h, numL_snoc, ih (v / 10) (by omega), Option.bind_some, digit_toNat _ (by omega), if_pos (by omega)]
      congr 1; omega
theorem dec_head (v : Nat) : (decDigits v).length = 1 ∨ (decDigits v).head? ≠ some 48 := by
  induction v using Nat.strongRecOn with
  | ind v ih =>
    by_cases h : v < 10
    · left; rw [decDigits_one h]; rfl
    · right
      rw [decDigits_ge h]
      have hh : ∀ (a b : List UInt8), a ≠ [] → (a ++ b).head? = a.head? := by
        intro a b ha; cases a with
        | nil => exact absurd rfl ha
        | cons x t => rfl
      rw [hh _ _ (dec_ne _)]
      rcases ih (v / 10) (by omega) with h1 | h1
      · have hlt : v / 10 < 10 := by
          by_cases h2 : v / 10 < 10
          · exact h2
          · rw [decDigits_ge h2] at h1
            have := List.length_pos_iff.2 (dec_ne (v / 10 / 10))
            rw [List.length_append, List.length_singleton] at h1; omega
        rw [decDigits_one hlt]
        simp only [List.head?_cons, ne_eq, Option.some.injEq]
        intro e
        have := congrArg UInt8.toNat e
        rw [digit_toNat _ hlt] at this
        have h48 : (48 : UInt8).toNat = 48 := rfl
        omega
      · exact h1
/-- Zeros in front make a number's digits as many as wanted. -/
theorem padTo_zeros : ∀ (k v : Nat), v < 10 ^ k → (decDigits v).length ≤ k → padTo k v = List.replicate (k - (decDigits v).length) 48 ++ decDigits v := by
  intro k
  induction k with
  | zero => intro v _ hl; have := List.length_pos_iff.2 (dec_ne v); omega
  | succ k ih =>
    intro v h hl
    have hp : 10 ^ (k + 1) = 10 ^ k * 10 := Nat.pow_succ 10 k
    rw [padTo]
    by_cases h1 : v < 10
    · rw [decDigits_one h1]
      have : ∀ j, padTo j 0 = List.replicate j 48 := by
        intro j
        induction j with
        | zero => rfl
        | succ j ihj => rw [padTo, Nat.zero_div, ihj, List.replicate_succ']; rfl
      rw [show v / 10 = 0 by omega, this, Nat.mod_eq_of_lt h1]
      simp
    · rw [decDigits_ge h1] at hl ⊢
      have hl' : (decDigits (v / 10)).length ≤ k := by simpa using hl
      rw [ih (v / 10) (by omega) hl', ← List.append_assoc]
      congr 2
      simp
theorem dec_length_le : ∀ (k v : Nat), v < 10 ^ (k + 1) → (decDigits v).length ≤ k + 1 := by
  intro k
  induction k with
  | zero => intro v h; rw [decDigits_one (by simpa using h)]; simp
  | succ k ih =>
    intro v h
    by_cases h1 : v < 10
    · rw [decDigits_one h1]; simp
    · rw [decDigits_ge h1]
      have hp : 10 ^ (k + 1 + 1) = 10 ^ (k + 1) * 10 := Nat.pow_succ 10 (k + 1)
      have := ih (v / 10) (by omega)
      simp; omega
theorem pre_ne (x : UInt8) (t : List UInt8) (h : x ≠ 46) : [46].isPrefixOf (x :: t) = false := by
  simp [List.isPrefixOf, Ne.symm h]
/-- Cut at the first point. -/
theorem cut_point (a b : List UInt8) (h : ∀ c ∈ a, c ≠ 46) : cut (a ++ 46 :: b) [46] = (a, b, true) := by
  have hi : index (a ++ 46 :: b) [46] = a.length := by
    refine index_first (by simp) (by simp [occAt]) ?_
    intro j hj
    simp only [occAt, List.drop_append_of_le_length (Nat.le_of_lt hj)]
    have hd : a.drop j = a[j] :: a.drop (j + 1) := List.drop_eq_getElem_cons hj
    rw [hd]
    exact pre_ne _ _ (h a[j] (List.getElem_mem hj))
  unfold cut
  rw [hi, if_pos (by omega)]
  simp
theorem cut_none (a : List UInt8) (h : ∀ c ∈ a, c ≠ 46) : cut a [46] = (a, [], false) := by
  have hi : index a [46] = -1 := by
    refine index_none ?_
    intro j hj
    simp only [occAt]
    by_cases hlt : j < a.length
    · rw [List.drop_eq_getElem_cons hlt]
      exact pre_ne _ _ (h a[j] (List.getElem_mem hlt))
    · rw [List.drop_eq_nil_of_le (by omega)]; rfl
  unfold cut
  rw [hi, if_neg (by omega)]
theorem split_point : ∀ (l : List UInt8), (∀ c ∈ l, c ≠ 46) ∨ ∃ a b, l = a ++ 46 :: b ∧ ∀ c ∈ a, c ≠ 46
  | [] => .inl (by simp)
  | c :: r => by
    by_cases hc : c = 46
    · exact .inr ⟨[], r, by rw [hc]; rfl, by simp⟩
    · rcases split_point r with h | ⟨a, b, e, h⟩
      · left
        intro x hx
        rcases List.mem_cons.1 hx with rfl | hx
        · exact hc
        · exact h x hx
      · refine .inr ⟨c :: a, b, by rw [e]; rfl, ?_⟩
        intro x hx
        rcases List.mem_cons.1 hx with rfl | hx
        · exact hc
        · exact h x hx
end Go.Proofs.YtcbdbkdnindaoaaDoor.Dg
