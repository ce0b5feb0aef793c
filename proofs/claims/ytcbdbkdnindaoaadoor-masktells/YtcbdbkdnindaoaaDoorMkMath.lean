/- Plain mathematics of sets of processors: bits, rows, stretches, texts. No program in sight. -/
import Derived.Lib.ItoaNum
import Derived.Lib.IndexMore
namespace Go.Proofs.YtcbdbkdnindaoaaDoor.Mk
open Go.Lib

/-- Which processors (below 16) a number has. -/
def listOf (M : Nat) : List Nat := (List.range 16).filter M.testBit
/-- Its processors below k. -/
def upTo (M k : Nat) : List Nat := (List.range k).filter M.testBit
theorem upTo_succ (M k : Nat) : upTo M (k + 1) = if M.testBit k = true then upTo M k ++ [k] else upTo M k := by
  unfold upTo
  rw [List.range_succ, List.filter_append]
  by_cases h : M.testBit k = true
  · rw [if_pos h]; simp [h]
  · rw [if_neg h]; simp [h]
theorem upTo_len (M : Nat) : ∀ k, (upTo M k).length ≤ k
  | 0 => by simp [upTo]
  | k + 1 => by
    have := upTo_len M k
    rw [upTo_succ]
    split <;> simp <;> omega
theorem listOf_len (M : Nat) : (listOf M).length ≤ 16 := upTo_len M 16
theorem mem_upTo (M k c : Nat) : c ∈ upTo M k ↔ c < k ∧ M.testBit c = true := by simp [upTo]
theorem mem_list (M c : Nat) : c ∈ listOf M ↔ c < 16 ∧ M.testBit c = true := mem_upTo M 16 c

theorem bit_mod (M c : Nat) (h : c < 16) : (M % 65536).testBit c = M.testBit c := by
  rw [show (65536 : Nat) = 2 ^ 16 from rfl, Nat.testBit_mod_two_pow]
  simp [h]
theorem list_mod (M : Nat) : listOf (M % 65536) = listOf M := by
  unfold listOf
  apply List.filter_congr
  intro c hc
  exact bit_mod M c (List.mem_range.1 hc)
theorem and_one (M c : Nat) : (M &&& 2 ^ c) = if M.testBit c = true then 2 ^ c else 0 := by
  apply Nat.eq_of_testBit_eq
  intro i
  rw [Nat.testBit_and, Nat.testBit_two_pow]
  by_cases e : c = i
  · subst e
    cases h : M.testBit c <;> simp
  · cases h : M.testBit c <;> simp [e]
theorem and_one_ne (M c : Nat) : decide ((M &&& 2 ^ c) = 0) = !M.testBit c := by
  rw [and_one]
  cases M.testBit c <;> simp

/-- How many processors there are, by two bytes. -/
def pop (b : Nat) : Nat := ((List.range 8).filter b.testBit).length
theorem len_pop (M : Nat) : (listOf M).length = pop (M % 256) + pop (M / 256 % 256) := by
  have e : List.range 16 = List.range 8 ++ (List.range 8).map (8 + ·) := by decide
  unfold listOf pop
  rw [e, List.filter_append, List.length_append]
  congr 1
  · congr 1
    apply List.filter_congr
    intro c hc
    rw [show (256 : Nat) = 2 ^ 8 from rfl, Nat.testBit_mod_two_pow]
    simp [List.mem_range.1 hc]
  · rw [List.filter_map, List.length_map]
    congr 1
    apply List.filter_congr
    intro c hc
    rw [show (256 : Nat) = 2 ^ 8 from rfl, Nat.testBit_mod_two_pow, Nat.testBit_div_two_pow]
    simp [List.mem_range.1 hc, Nat.add_comm]

/-! ## Stretches -/

/-- Stretches that rise, with a gap between, none of them below lo. -/
def Ok : Nat → List (Nat × Nat) → Prop
  | _, [] => True
  | lo, p :: r => lo ≤ p.1 ∧ p.1 ≤ p.2 ∧ p.2 ≤ 15 ∧ Ok (p.2 + 2) r
def one (p : Nat × Nat) : List Nat := List.range' p.1 (p.2 + 1 - p.1)
def flat (rs : List (Nat × Nat)) : List Nat := rs.flatMap one
theorem flat_nil : flat [] = [] := rfl
theorem flat_cons (p : Nat × Nat) (r : List (Nat × Nat)) : flat (p :: r) = one p ++ flat r := by simp [flat]
theorem flat_app (a b : List (Nat × Nat)) : flat (a ++ b) = flat a ++ flat b := by simp [flat]
theorem Ok.mono {lo lo' : Nat} {rs : List (Nat × Nat)} (h : Ok lo rs) (hl : lo' ≤ lo) : Ok lo' rs := by
  cases rs with
  | nil => trivial
  | cons p r => exact ⟨Nat.le_trans hl h.1, h.2⟩
theorem mem_one (p : Nat × Nat) (c : Nat) : c ∈ one p ↔ p.1 ≤ c ∧ c ≤ p.2 := by
  unfold one
  rw [List.mem_range'_1]
  omega
theorem mem_flat (rs : List (Nat × Nat)) (c : Nat) : c ∈ flat rs ↔ ∃ p ∈ rs, p.1 ≤ c ∧ c ≤ p.2 := by
  unfold flat
  rw [List.mem_flatMap]
  exact ⟨fun ⟨p, h, h2⟩ => ⟨p, h, (mem_one p c).1 h2⟩, fun ⟨p, h, h2⟩ => ⟨p, h, (mem_one p c).2 h2⟩⟩
theorem Ok.low {lo : Nat} {rs : List (Nat × Nat)} (h : Ok lo rs) {c : Nat} (hc : c ∈ flat rs) : lo ≤ c ∧ c ≤ 15 := by
  induction rs generalizing lo with
  | nil => cases hc
  | cons p r ih =>
    rw [flat_cons, List.mem_append] at hc
    rcases hc with hc | hc
    · rw [mem_one] at hc; exact ⟨Nat.le_trans h.1 hc.1, Nat.le_trans hc.2 h.2.2.1⟩
    · have := ih h.2.2.2 hc
      have h1 := h.1
      have h2 := h.2.1
      exact ⟨by omega, this.2⟩
theorem runs_from (M : Nat) : ∀ (n k : Nat), n + k = 16 → ∃ rs, Ok k rs ∧ flat rs = (List.range' k n).filter M.testBit
  | 0, k, _ => ⟨[], trivial, rfl⟩
  | n + 1, k, hk => by
    obtain ⟨rs, h1, h2⟩ := runs_from M n (k + 1) (by omega)
    have e : (List.range' k (n + 1)).filter M.testBit = if M.testBit k = true then k :: (List.range' (k + 1) n).filter M.testBit else (List.range' (k + 1) n).filter M.testBit := by
      rw [List.range'_succ]
      by_cases h : M.testBit k = true
      · rw [if_pos h]; simp [h]
      · rw [if_neg h]; simp [h]
    rw [e, ← h2]
    by_cases h : M.testBit k = true
    · rw [if_pos h]
      cases rs with
      | nil => exact ⟨[(k, k)], ⟨Nat.le_refl _, Nat.le_refl _, by show k ≤ 15; omega, trivial⟩, by rw [flat_cons]; simp [one, flat]⟩
      | cons p r =>
        obtain ⟨a, b⟩ := p
        by_cases c : a = k + 1
        · subst c
          refine ⟨(k, b) :: r, ⟨Nat.le_refl _, by have := h1.2.1; show k ≤ b; simp only at this; omega, h1.2.2.1, h1.2.2.2⟩, ?_⟩
          rw [flat_cons, flat_cons]
          have hb : k + 1 ≤ b := h1.2.1
          have : one (k, b) = k :: one (k + 1, b) := by
            unfold one
            show List.range' k (b + 1 - k) = k :: List.range' (k + 1) (b + 1 - (k + 1))
            rw [show b + 1 - k = (b + 1 - (k + 1)) + 1 by omega, List.range'_succ]
          rw [this]; rfl
        · have ha : k + 1 ≤ a := h1.1
          refine ⟨(k, k) :: (a, b) :: r, ⟨Nat.le_refl _, Nat.le_refl _, by show k ≤ 15; omega, by show k + 2 ≤ a; omega, h1.2⟩, ?_⟩
          rw [flat_cons]; simp [one]
    · rw [if_neg h]
      exact ⟨rs, h1.mono (by omega), rfl⟩
theorem runs_of (M : Nat) : ∃ rs, Ok 0 rs ∧ flat rs = listOf M := by
  obtain ⟨rs, h1, h2⟩ := runs_from M 16 0 rfl
  exact ⟨rs, h1, by rw [h2]; unfold listOf; rw [List.range_eq_range']⟩

/-! ## Texts -/

def dec (n : Nat) : List UInt8 := decDigits n
/-- A stretch's text. -/
def pt (p : Nat × Nat) : List UInt8 := if p.1 = p.2 then dec p.1 else dec p.1 ++ 45 :: dec p.2
def joinT : List (Nat × Nat) → List UInt8
  | [] => []
  | p :: r => if r = [] then pt p else pt p ++ 44 :: joinT r
def textR (rs : List (Nat × Nat)) : List UInt8 := if rs = [] then [45] else joinT rs
theorem dec_ne (n : Nat) : dec n ≠ [] := by
  unfold dec
  rw [decDigits]
  split <;> simp
theorem pt_ne (p : Nat × Nat) : pt p ≠ [] := by
  unfold pt
  split
  · exact dec_ne _
  · simp
theorem joinT_ne {rs : List (Nat × Nat)} (h : rs ≠ []) : joinT rs ≠ [] := by
  cases rs with
  | nil => exact absurd rfl h
  | cons p r =>
    unfold joinT
    split
    · exact pt_ne p
    · simp
theorem joinT_snoc (d : List (Nat × Nat)) (p : Nat × Nat) : joinT (d ++ [p]) = if d = [] then pt p else joinT d ++ 44 :: pt p := by
  induction d with
  | nil => simp [joinT]
  | cons q r ih =>
    rw [List.cons_append, joinT, if_neg (by simp), ih, if_neg (List.cons_ne_nil q r), joinT]
    by_cases h : r = []
    · rw [if_pos h, if_pos h]
    · rw [if_neg h, if_neg h]; simp
/-- What the program adds to a text at a processor. -/
def addT (M : Nat) (T : List UInt8) (c : Nat) : List UInt8 :=
  if (decide (1 ≤ c) && M.testBit (c - 1)) = false then (if T = [] then dec c else T ++ 44 :: dec c)
  else if (decide (c + 1 < 16) && M.testBit (c + 1)) = false then T ++ 45 :: dec c else T

theorem fold_mid (M b : Nat) (T : List UInt8) (hb : b ≤ 15) (he : (decide (b + 1 < 16) && M.testBit (b + 1)) = false) : ∀ (n k : Nat), 1 ≤ k → k + n = b → (∀ c, k ≤ c + 1 → c ≤ b → M.testBit c = true) →
    (List.range' k (n + 1)).foldl (addT M) T = T ++ 45 :: dec b
  | 0, k, hk, hkb, hm => by
    obtain rfl : k = b := by omega
    show addT M T k = _
    unfold addT
    rw [if_neg (by rw [hm (k - 1) (by omega) (by omega)]; simp [hk]), if_pos he]
  | n + 1, k, hk, hkb, hm => by
    rw [List.range'_succ, List.foldl_cons]
    have : addT M T k = T := by
      unfold addT
      rw [if_neg (by rw [hm (k - 1) (by omega) (by omega)]; simp [hk]), if_neg (by rw [hm (k + 1) (by omega) (by omega)]; simp; omega)]
    rw [this]
    exact fold_mid M b T hb he n (k + 1) (by omega) (by omega) fun c h1 h2 => hm c (by omega) h2
theorem fold_run (M a b : Nat) (d : List (Nat × Nat)) (hab : a ≤ b) (hb : b ≤ 15) (hs : (decide (1 ≤ a) && M.testBit (a - 1)) = false) (he : (decide (b + 1 < 16) && M.testBit (b + 1)) = false)
    (hm : ∀ c, a ≤ c → c ≤ b → M.testBit c = true) : (one (a, b)).foldl (addT M) (joinT d) = joinT (d ++ [(a, b)]) := by
  have h0 : addT M (joinT d) a = if d = [] then dec a else joinT d ++ 44 :: dec a := by
    unfold addT
    rw [if_pos hs]
    by_cases c : d = []
    · subst c; rfl
    · rw [if_neg (joinT_ne c), if_neg c]
  unfold one
  show (List.range' a (b + 1 - a)).foldl (addT M) (joinT d) = _
  rw [show b + 1 - a = (b - a) + 1 by omega, List.range'_succ, List.foldl_cons, h0, joinT_snoc]
  unfold pt
  by_cases c : a = b
  · subst c
    simp
  · rw [show b - a = (b - a - 1) + 1 by omega, fold_mid M b _ hb he (b - a - 1) (a + 1) (by omega) (by omega) fun c h1 h2 => hm c (by omega) h2]
    simp only [if_neg c]
    by_cases e : d = []
    · rw [if_pos e, if_pos e]
    · rw [if_neg e, if_neg e]; simp
theorem fold_runs (M : Nat) : ∀ (rest d : List (Nat × Nat)) (lo : Nat), Ok lo rest → (∀ c, lo ≤ c + 1 → c < 16 → (M.testBit c = true ↔ c ∈ flat rest)) →
    (flat rest).foldl (addT M) (joinT d) = joinT (d ++ rest)
  | [], d, _, _, _ => by simp [flat]
  | p :: r, d, lo, h, hm => by
    obtain ⟨a, b⟩ := p
    obtain ⟨h1, h2, h3, h4⟩ := h
    simp only at h1 h2 h3 h4
    rw [flat_cons, List.foldl_append, fold_run M a b d h2 h3 ?_ ?_ ?_, fold_runs M r (d ++ [(a, b)]) (b + 2) h4 ?_]
    · simp
    · intro c c1 c2
      rw [hm c (by omega) c2, flat_cons, List.mem_append, mem_one]
      constructor
      · rintro (hc | hc)
        · have := hc.2; simp only at this; omega
        · exact hc
      · exact fun hc => .inr hc
    · by_cases c : 1 ≤ a
      · have := hm (a - 1) (by omega) (by omega)
        simp only [c, decide_true, Bool.true_and]
        rw [Bool.eq_false_iff]
        intro hc
        rw [this, flat_cons, List.mem_append, mem_one] at hc
        rcases hc with hc | hc
        · have := hc.1; simp only at this; omega
        · have := (h4.low hc).1; omega
      · simp [c]
    · by_cases c : b + 1 < 16
      · have := hm (b + 1) (by omega) (by omega)
        simp only [c, decide_true, Bool.true_and]
        rw [Bool.eq_false_iff]
        intro hc
        rw [this, flat_cons, List.mem_append, mem_one] at hc
        rcases hc with hc | hc
        · have := hc.2; simp only at this; omega
        · have := (h4.low hc).1; omega
      · simp [c]
    · intro c c1 c2
      rw [hm c (by omega) (by omega), flat_cons, List.mem_append, mem_one]
      exact .inl ⟨c1, c2⟩
/-- The text that the program makes. -/
def foldT (M : Nat) : List UInt8 := (listOf M).foldl (addT M) []
theorem fold_text (M : Nat) (rs : List (Nat × Nat)) (h : Ok 0 rs) (hf : flat rs = listOf M) : foldT M = joinT rs := by
  unfold foldT
  rw [← hf]
  have := fold_runs M rs [] 0 h fun c _ hc => by
    rw [hf, mem_list]; exact ⟨fun h => ⟨hc, h⟩, fun h => h.2⟩
  simpa [joinT] using this
/-- A set's text. -/
def textOf (M : Nat) : List UInt8 := if foldT M = [] then [45] else foldT M
theorem textOf_runs (M : Nat) (rs : List (Nat × Nat)) (h : Ok 0 rs) (hf : flat rs = listOf M) : textOf M = textR rs := by
  unfold textOf textR
  rw [fold_text M rs h hf]
  by_cases c : rs = []
  · subst c; rfl
  · rw [if_neg (joinT_ne c), if_neg c]
theorem foldT_mod (M : Nat) : foldT (M % 65536) = foldT M := by
  obtain ⟨rs, h, hf⟩ := runs_of M
  rw [fold_text M rs h hf, fold_text (M % 65536) rs h (by rw [list_mod]; exact hf)]
theorem textOf_mod (M : Nat) : textOf (M % 65536) = textOf M := by
  unfold textOf; rw [foldT_mod]
end Go.Proofs.YtcbdbkdnindaoaaDoor.Mk
