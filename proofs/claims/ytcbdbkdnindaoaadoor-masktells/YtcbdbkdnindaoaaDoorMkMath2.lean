/- Plain mathematics of reading a set's text. No program in sight. -/
import Derived.Test.YtcbdbkdnindaoaaDoorMkMath
import Derived.Lib.CutLaws
import Derived.Lib.AtoiAll
namespace Go.Proofs.YtcbdbkdnindaoaaDoor.Mk
open Go.Lib

theorem idx_in (b : UInt8) (y : List UInt8) : ∀ (x : List UInt8), b ∉ x → index (x ++ b :: y) [b] = x.length
  | [], _ => by simp [index, List.isPrefixOf]
  | c :: r, h => by
    have hc : b ≠ c := fun e => h (by simp [e])
    have ih := idx_in b y r (fun e => h (by simp [e]))
    show (if [b].isPrefixOf (c :: (r ++ b :: y)) = true then (0 : Int) else if (index (r ++ b :: y) [b] == -1) = true then -1 else index (r ++ b :: y) [b] + 1) = _
    rw [ih, if_neg (by simp [List.isPrefixOf, hc]), if_neg (by rw [beq_iff_eq]; omega)]
    simp
theorem idx_no (b : UInt8) : ∀ (x : List UInt8), b ∉ x → index x [b] = -1
  | [], _ => by simp [index]
  | c :: r, h => by
    have hc : b ≠ c := fun e => h (by simp [e])
    have ih := idx_no b r (fun e => h (by simp [e]))
    show (if [b].isPrefixOf (c :: r) = true then (0 : Int) else if (index r [b] == -1) = true then -1 else index r [b] + 1) = _
    rw [ih, if_neg (by simp [List.isPrefixOf, hc]), if_pos (by decide)]
theorem cut_in (b : UInt8) (x y : List UInt8) (h : b ∉ x) : cut (x ++ b :: y) [b] = (x, y, true) := by
  unfold cut
  rw [idx_in b y x h, if_pos (by omega)]
  simp
theorem cut_no (b : UInt8) (x : List UInt8) (h : b ∉ x) : cut x [b] = (x, [], false) := by
  unfold cut
  rw [idx_no b x h, if_neg (by omega)]
/-- What lies behind a cut is shorter. -/
theorem cut_short (s : List UInt8) (b : UInt8) (h : (cut s [b]).2.2 = true) : (cut s [b]).2.1.length < s.length := by
  unfold cut at h ⊢
  split at h
  · rename_i c
    rw [if_pos c]
    have hs : s ≠ [] := by
      intro e
      subst e
      simp [index] at c
    have := List.length_pos_iff.2 hs
    show (s.drop ((index s [b]).toNat + [b].length)).length < s.length
    rw [List.length_drop]
    simp; omega
  · cases h
theorem cut_le (s : List UInt8) (b : UInt8) : (cut s [b]).1.length ≤ s.length ∧ (cut s [b]).2.1.length ≤ s.length := by
  unfold cut
  split
  · constructor
    · show (s.take _).length ≤ _
      rw [List.length_take]; omega
    · show (s.drop _).length ≤ _
      rw [List.length_drop]; omega
  · exact ⟨Nat.le_refl _, Nat.zero_le _⟩

/-- Which processors lie between two numbers. -/
def rangeN (a b : Int) : Nat → Nat
  | 0 => 0
  | k + 1 => if a ≤ (k : Int) ∧ (k : Int) ≤ b then rangeN a b k ||| 2 ^ k else rangeN a b k
theorem rangeN_bit (a b : Int) (c : Nat) : ∀ k, ((rangeN a b k).testBit c = true ↔ c < k ∧ a ≤ (c : Int) ∧ (c : Int) ≤ b)
  | 0 => by
    show Nat.testBit 0 c = true ↔ _
    simp
  | k + 1 => by
    unfold rangeN
    split
    · rename_i h
      rw [Nat.testBit_or, Bool.or_eq_true, rangeN_bit a b c k, Nat.testBit_two_pow, decide_eq_true_iff]
      constructor
      · rintro (h2 | h2)
        · exact ⟨by omega, h2.2⟩
        · subst h2; exact ⟨by omega, h⟩
      · rintro ⟨h1, h2⟩
        by_cases e : k = c
        · exact .inr e
        · exact .inl ⟨by omega, h2⟩
    · rename_i h
      rw [rangeN_bit a b c k]
      constructor
      · rintro ⟨h1, h2⟩; exact ⟨by omega, h2⟩
      · rintro ⟨h1, h2⟩
        refine ⟨?_, h2⟩
        by_cases e : k = c
        · subst e; exact absurd h2 h
        · omega
theorem rangeN_lt (a b : Int) : ∀ k, k ≤ 16 → rangeN a b k < 65536
  | 0, _ => by show 0 < 65536; omega
  | k + 1, hk => by
    have := rangeN_lt a b k (by omega)
    unfold rangeN
    split
    · show rangeN a b k ||| 2 ^ k < 2 ^ 16
      exact Nat.or_lt_two_pow (by omega) (Nat.pow_lt_pow_right (by omega) (by omega))
    · exact this
def atoiO (l : List UInt8) : Option Int := match atoiAll l with
  | .ok v => some v
  | _ => none
/-- What two texts tell. -/
def stretchN (f l : List UInt8) : Nat := match atoiO f with
  | some a => match atoiO l with
    | some b => rangeN a b 16
    | none => 0
  | none => 0
theorem stretchN_lt (f l : List UInt8) : stretchN f l < 65536 := by
  unfold stretchN
  split
  · split
    · exact rangeN_lt _ _ 16 (by omega)
    · omega
  · omega
/-- What the first stretch of a text tells. -/
def rowOf (s : List UInt8) : Nat := stretchN (cut (cut s [44]).1 [45]).1 (if (cut (cut s [44]).1 [45]).2.2 = true then (cut (cut s [44]).1 [45]).2.1 else (cut (cut s [44]).1 [45]).1)
theorem rowOf_lt (s : List UInt8) : rowOf s < 65536 := stretchN_lt _ _
def readL : Nat → List UInt8 → Nat
  | 0, _ => 0
  | n + 1, s => if rowOf s = 0 then 0 else if (cut s [44]).2.2 = true then rowOf s ||| readL n (cut s [44]).2.1 else rowOf s
/-- What a text tells. -/
def readN (s : List UInt8) : Nat := readL (s.length + 1) s
theorem readL_lt : ∀ (n : Nat) (s : List UInt8), readL n s < 65536
  | 0, _ => by show 0 < 65536; omega
  | n + 1, s => by
    have h1 := rowOf_lt s
    have h2 := readL_lt n (cut s [44]).2.1
    unfold readL
    split
    · omega
    · split
      · show rowOf s ||| _ < 2 ^ 16
        exact Nat.or_lt_two_pow (by omega) (by omega)
      · exact h1

theorem dec_small : ∀ a : Fin 16, (44 : UInt8) ∉ dec a.val ∧ (45 : UInt8) ∉ dec a.val ∧ atoiO (dec a.val) = some (a.val : Int) := by decide +kernel
theorem pt_no44 (p : Nat × Nat) (h1 : p.1 ≤ 15) (h2 : p.2 ≤ 15) : (44 : UInt8) ∉ pt p := by
  have a1 := (dec_small ⟨p.1, by omega⟩).1
  have a2 := (dec_small ⟨p.2, by omega⟩).1
  simp only at a1 a2
  unfold pt
  split
  · exact a1
  · simp [a1, a2]
theorem cut_pt (p : Nat × Nat) (h1 : p.1 ≤ 15) : cut (pt p) [45] = if p.1 = p.2 then (dec p.1, [], false) else (dec p.1, dec p.2, true) := by
  have a1 := (dec_small ⟨p.1, by omega⟩).2.1
  simp only at a1
  unfold pt
  by_cases e : p.1 = p.2
  · rw [if_pos e, if_pos e]; exact cut_no 45 _ a1
  · rw [if_neg e, if_neg e]; exact cut_in 45 _ _ a1
theorem row_pt (p : Nat × Nat) (h1 : p.1 ≤ 15) (h2 : p.2 ≤ 15) (s : List UInt8) (hs : (cut s [44]).1 = pt p) : rowOf s = rangeN p.1 p.2 16 := by
  have a1 := (dec_small ⟨p.1, by omega⟩).2.2
  have a2 := (dec_small ⟨p.2, by omega⟩).2.2
  simp only at a1 a2
  unfold rowOf stretchN
  rw [hs, cut_pt p h1]
  by_cases e : p.1 = p.2
  · rw [if_pos e]
    simp only [a1]
    rw [if_neg (by decide), a1, ← e]
  · rw [if_neg e]
    simp only [a1]
    simp only [if_true, a2]
theorem cut_join (p : Nat × Nat) (r : List (Nat × Nat)) (h1 : p.1 ≤ 15) (h2 : p.2 ≤ 15) : cut (joinT (p :: r)) [44] = (pt p, joinT r, !r.isEmpty) := by
  unfold joinT
  cases r with
  | nil => rw [if_pos rfl]; exact cut_no 44 _ (pt_no44 p h1 h2)
  | cons q t => rw [if_neg (by simp)]; exact cut_in 44 _ _ (pt_no44 p h1 h2)
theorem readL_join : ∀ (rs : List (Nat × Nat)) (lo n : Nat), rs ≠ [] → Ok lo rs → (joinT rs).length < n → ∀ c, ((readL n (joinT rs)).testBit c = true ↔ c ∈ flat rs)
  | [], _, _, h, _, _, _ => absurd rfl h
  | p :: r, lo, 0, _, _, h, _ => by omega
  | p :: r, lo, n + 1, _, ok, hn, c => by
    obtain ⟨o1, o2, o3, o4⟩ := ok
    have hcut := cut_join p r (by omega) o3
    have hrow := row_pt p (by omega) o3 (joinT (p :: r)) (by rw [hcut])
    have hbit := rangeN_bit p.1 p.2
    have hne : rowOf (joinT (p :: r)) ≠ 0 := by
      rw [hrow]
      intro e
      have := (hbit p.1 16).2 ⟨by omega, by omega, by omega⟩
      rw [e] at this
      simp at this
    unfold readL
    rw [if_neg hne, flat_cons, List.mem_append, mem_one]
    cases r with
    | nil =>
      rw [hcut, if_neg (by simp), hrow, hbit]
      simp [flat]
      omega
    | cons q t =>
      have hlen := cut_short (joinT (p :: q :: t)) 44 (by rw [hcut]; rfl)
      rw [hcut] at hlen ⊢
      rw [if_pos (by simp), Nat.testBit_or, Bool.or_eq_true, hrow, hbit]
      have ih := readL_join (q :: t) (p.2 + 2) n (by simp) o4 (by simp only at hlen; omega) c
      rw [ih]
      constructor
      · rintro (h | h)
        · exact .inl ⟨by omega, by omega⟩
        · exact .inr h
      · rintro (h | h)
        · exact .inl ⟨by omega, by omega, by omega⟩
        · exact .inr h
theorem list_bit (M c : Nat) (hM : M < 65536) : M.testBit c = true ↔ c ∈ listOf M := by
  rw [mem_list]
  constructor
  · intro h
    refine ⟨?_, h⟩
    by_cases e : c < 16
    · exact e
    · rw [Nat.testBit_lt_two_pow (Nat.lt_of_lt_of_le hM (show 2 ^ 16 ≤ 2 ^ c from Nat.pow_le_pow_right (by omega) (by omega)))] at h
      cases h
  · exact fun h => h.2
theorem read_text (M : Nat) : readN (textOf M) = M % 65536 := by
  obtain ⟨rs, ok, hf⟩ := runs_of M
  rw [textOf_runs M rs ok hf]
  by_cases e : rs = []
  · subst e
    have h0 : M % 65536 = 0 := by
      apply Nat.eq_of_testBit_eq
      intro c
      rw [Nat.zero_testBit, Bool.eq_false_iff]
      intro h
      rw [list_bit _ c (by omega), list_mod, ← hf] at h
      cases h
    rw [h0]
    decide +kernel
  · unfold textR
    rw [if_neg e]
    apply Nat.eq_of_testBit_eq
    intro c
    rw [Bool.eq_iff_iff]
    unfold readN
    rw [readL_join rs 0 _ e ok (by omega) c, list_bit _ c (by omega), list_mod, hf]
/-- Which set a text tells, if it is the text of one. -/
def parseN (s : List UInt8) : Nat × Bool := if textOf (readN s) = s then (readN s, true) else (0, false)
theorem parse_text (M : Nat) : parseN (textOf M) = (M % 65536, true) := by
  unfold parseN
  rw [read_text, textOf_mod, if_pos rfl]
theorem parse_yes (s : List UInt8) (M : Nat) (hM : M < 65536) (h : textOf M = s) : parseN s = (M, true) := by
  rw [← h, parse_text, Nat.mod_eq_of_lt hM]
theorem parse_no (s : List UInt8) (h : ∀ M, M < 65536 → textOf M ≠ s) : parseN s = (0, false) := by
  unfold parseN
  rw [if_neg (h (readN s) (readL_lt _ _))]
end Go.Proofs.YtcbdbkdnindaoaaDoor.Mk
