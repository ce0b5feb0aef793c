import Derived.Test.YtjjdkkdnlnbedaaGreatQueA
import Derived.Test.YtjjdkkdnlnbedaaGreatTreeC
import Derived.Test.YtjjdkkdnlnbedaaGreatRows
import Derived.WalkKit
import Derived.WalkSpells
import Derived.WalkLawsBesides
import Derived.Lib.Mul64
import Derived.Laws.Bits64b
import Derived.Deep.QuietTactic
import Derived.BigQuiet
import Derived.Below
import Derived.Lib.ItoaNum
import Derived.Lib.IndexMore
import Derived.Laws.Bits64
import Derived.Test.YtjjdkkdnlnbedaaGreatTreeA
import Derived.Deep.Onto
import Derived.Laws.MakeOwn
/- Small general lemmas that walks use. -/
namespace Go.Proofs.YtjjdkkdnlnbedaaGreat
open Go.RowKit
/-- All old cells and marks read as before. -/
theorem bcell {W w1 : World} (hb : Below W.heap.size W w1) : (∀ b o, b < W.heap.size → w1.cell? ⟨b, o, none⟩ = W.cell? ⟨b, o, none⟩) ∧ (∀ b o, b < W.heap.size → w1.frozen? ⟨b, o, none⟩ = W.frozen? ⟨b, o, none⟩) :=
  ⟨fun b o h => hb.cell (p := ⟨b, o, none⟩) h, fun b o h => hb.frozen (p := ⟨b, o, none⟩) h⟩
theorem below_on {b : Nat} {w w1 w2 : World} (hbs : w.heap.size = b) (h : Below b w w1) (h2 : Below w1.heap.size w1 w2) : Below b w w2 := by
  subst hbs; exact h.trans (h2.mono h.size)
theorem below1 (w : World) (a : Obj) : Below w.heap.size w (w.alloc a) := (Below.refl _ _).alloc (Nat.le_refl _) _
theorem below2 (w : World) (a b : Obj) : Below w.heap.size w ((w.alloc a).alloc b) := (below1 w a).alloc (below1 w a).size _
theorem below_drewN (w : World) (n : Nat) : Below w.heap.size w (w.drewN n) := ⟨rfl, rfl, rfl, Nat.le_refl _, fun _ _ => rfl⟩
theorem below1N (w : World) (a : Obj) (n : Nat) : Below w.heap.size w ((w.alloc a).drewN n) := (below1 w a).trans ((below_drewN _ n).mono (below1 w a).size)
theorem results_tmp4 {fn : Func} {t u v x : Tmp} (h : fn.results = #[.tmp t, .tmp u, .tmp v, .tmp x]) (tmps : Array Value) (P : Program) (w : World) :
    (results fn tmps).run P w = .ok (.tuple #[tmps.getD t undef, tmps.getD u undef, tmps.getD v undef, tmps.getD x undef]) w := by
  simp [results, h]
end Go.Proofs.YtjjdkkdnlnbedaaGreat


/- Plain mathematics of sets of processors: bits, rows, stretches, texts. No program in sight. -/
namespace Go.Proofs.YtjjdkkdnlnbedaaGreat.Mk
open Go.Lib

/-- Which processors (below 16) a number has. -/
def listOf (M : Nat) : List Nat := (List.range 16).filter M.testBit
/-- Its processors below k. -/
def upTo (M k : Nat) : List Nat := (List.range k).filter M.testBit
theorem upTo_succ (M k : Nat) : upTo M (k + 1) = if M.testBit k = true then upTo M k ++ [k] else upTo M k := by
  unfold upTo
  rw [List.range_succ, List.filter_append]
  by_cases h : M.testBit k = true
  · rw [if_pos h]; simp [h]
  · rw [if_neg h]; simp [h]
theorem upTo_len (M : Nat) : ∀ k, (upTo M k).length ≤ k
  | 0 => by simp [upTo]
  | k + 1 => by
    have := upTo_len M k
    rw [upTo_succ]
    split <;> simp <;> omega
theorem listOf_len (M : Nat) : (listOf M).length ≤ 16 := upTo_len M 16
theorem mem_upTo (M k c : Nat) : c ∈ upTo M k ↔ c < k ∧ M.testBit c = true := by simp [upTo]
theorem mem_list (M c : Nat) : c ∈ listOf M ↔ c < 16 ∧ M.testBit c = true := mem_upTo M 16 c

theorem bit_mod (M c : Nat) (h : c < 16) : (M % 65536).testBit c = M.testBit c := by
  rw [show (65536 : Nat) = 2 ^ 16 from rfl, Nat.testBit_mod_two_pow]
  simp [h]
theorem list_mod (M : Nat) : listOf (M % 65536) = listOf M := by
  unfold listOf
  apply List.filter_congr
  intro c hc
  exact bit_mod M c (List.mem_range.1 hc)
theorem and_one (M c : Nat) : (M &&& 2 ^ c) = if M.testBit c = true then 2 ^ c else 0 := by
  apply Nat.eq_of_testBit_eq
  intro i
  rw [Nat.testBit_and, Nat.testBit_two_pow]
  by_cases e : c = i
  · subst e
    cases h : M.testBit c <;> simp
  · cases h : M.testBit c <;> simp [e]
theorem and_one_ne (M c : Nat) : decide ((M &&& 2 ^ c) = 0) = !M.testBit c := by
  rw [and_one]
  cases M.testBit c <;> simp

/-- How many processors there are, by two bytes. -/
def pop (b : Nat) : Nat := ((List.range 8).filter b.testBit).length
theorem len_pop (M : Nat) : (listOf M).length = pop (M % 256) + pop (M / 256 % 256) := by
  have e : List.range 16 = List.range 8 ++ (List.range 8).map (8 + ·) := by decide
  unfold listOf pop
  rw [e, List.filter_append, List.length_append]
  congr 1
  · congr 1
    apply List.filter_congr
    intro c hc
    rw [show (256 : Nat) = 2 ^ 8 from rfl, Nat.testBit_mod_two_pow]
    simp [List.mem_range.1 hc]
  · rw [List.filter_map, List.length_map]
    congr 1
    apply List.filter_congr
    intro c hc
    rw [show (256 : Nat) = 2 ^ 8 from rfl, Nat.testBit_mod_two_pow, Nat.testBit_div_two_pow]
    simp [List.mem_range.1 hc, Nat.add_comm]

/-! ## Stretches -/

/-- Stretches that rise, with a gap between, none of them below lo. -/
def Ok : Nat → List (Nat × Nat) → Prop
  | _, [] => True
  | lo, p :: r => lo ≤ p.1 ∧ p.1 ≤ p.2 ∧ p.2 ≤ 15 ∧ Ok (p.2 + 2) r
def one (p : Nat × Nat) : List Nat := List.range' p.1 (p.2 + 1 - p.1)
def flat (rs : List (Nat × Nat)) : List Nat := rs.flatMap one
theorem flat_nil : flat [] = [] := rfl
theorem flat_cons (p : Nat × Nat) (r : List (Nat × Nat)) : flat (p :: r) = one p ++ flat r := by simp [flat]
theorem flat_app (a b : List (Nat × Nat)) : flat (a ++ b) = flat a ++ flat b := by simp [flat]
theorem Ok.mono {lo lo' : Nat} {rs : List (Nat × Nat)} (h : Ok lo rs) (hl : lo' ≤ lo) : Ok lo' rs := by
  cases rs with
  | nil => trivial
  | cons p r => exact ⟨Nat.le_trans hl h.1, h.2⟩
theorem mem_one (p : Nat × Nat) (c : Nat) : c ∈ one p ↔ p.1 ≤ c ∧ c ≤ p.2 := by
  unfold one
  rw [List.mem_range'_1]
  omega
theorem mem_flat (rs : List (Nat × Nat)) (c : Nat) : c ∈ flat rs ↔ ∃ p ∈ rs, p.1 ≤ c ∧ c ≤ p.2 := by
  unfold flat
  rw [List.mem_flatMap]
  exact ⟨fun ⟨p, h, h2⟩ => ⟨p, h, (mem_one p c).1 h2⟩, fun ⟨p, h, h2⟩ => ⟨p, h, (mem_one p c).2 h2⟩⟩
theorem Ok.low {lo : Nat} {rs : List (Nat × Nat)} (h : Ok lo rs) {c : Nat} (hc : c ∈ flat rs) : lo ≤ c ∧ c ≤ 15 := by
  induction rs generalizing lo with
  | nil => cases hc
  | cons p r ih =>
    rw [flat_cons, List.mem_append] at hc
    rcases hc with hc | hc
    · rw [mem_one] at hc; exact ⟨Nat.le_trans h.1 hc.1, Nat.le_trans hc.2 h.2.2.1⟩
    · have := ih h.2.2.2 hc
      have h1 := h.1
      have h2 := h.2.1
      exact ⟨by omega, this.2⟩
theorem runs_from (M : Nat) : ∀ (n k : Nat), n + k = 16 → ∃ rs, Ok k rs ∧ flat rs = (List.range' k n).filter M.testBit
  | 0, k, _ => ⟨[], trivial, rfl⟩
  | n + 1, k, hk => by
    obtain ⟨rs, h1, h2⟩ := runs_from M n (k + 1) (by omega)
    have e : (List.range' k (n + 1)).filter M.testBit = if M.testBit k = true then k :: (List.range' (k + 1) n).filter M.testBit else (List.range' (k + 1) n).filter M.testBit := by
      rw [List.range'_succ]
      by_cases h : M.testBit k = true
      · rw [if_pos h]; simp [h]
      · rw [if_neg h]; simp [h]
    rw [e, ← h2]
    by_cases h : M.testBit k = true
    · rw [if_pos h]
      cases rs with
      | nil => exact ⟨[(k, k)], ⟨Nat.le_refl _, Nat.le_refl _, by show k ≤ 15; omega, trivial⟩, by rw [flat_cons]; simp [one, flat]⟩
      | cons p r =>
        obtain ⟨a, b⟩ := p
        by_cases c : a = k + 1
        · subst c
          refine ⟨(k, b) :: r, ⟨Nat.le_refl _, by have := h1.2.1; show k ≤ b; simp only at this; omega, h1.2.2.1, h1.2.2.2⟩, ?_⟩
          rw [flat_cons, flat_cons]
          have hb : k + 1 ≤ b := h1.2.1
          have : one (k, b) = k :: one (k + 1, b) := by
            unfold one
            show List.range' k (b + 1 - k) = k :: List.range' (k + 1) (b + 1 - (k + 1))
            rw [show b + 1 - k = (b + 1 - (k + 1)) + 1 by omega, List.range'_succ]
          rw [this]; rfl
        · have ha : k + 1 ≤ a := h1.1
          refine ⟨(k, k) :: (a, b) :: r, ⟨Nat.le_refl _, Nat.le_refl _, by show k ≤ 15; omega, by show k + 2 ≤ a; omega, h1.2⟩, ?_⟩
          rw [flat_cons]; simp [one]
    · rw [if_neg h]
      exact ⟨rs, h1.mono (by omega), rfl⟩
theorem runs_of (M : Nat) : ∃ rs, Ok 0 rs ∧ flat rs = listOf M := by
  obtain ⟨rs, h1, h2⟩ := runs_from M 16 0 rfl
  exact ⟨rs, h1, by rw [h2]; unfold listOf; rw [List.range_eq_range']⟩

/-! ## Texts -/

def dec (n : Nat) : List UInt8 := decDigits n
/-- A stretch's text. -/
def pt (p : Nat × Nat) : List UInt8 := if p.1 = p.2 then dec p.1 else dec p.1 ++ 45 :: dec p.2
def joinT : List (Nat × Nat) → List UInt8
  | [] => []
  | p :: r => if r = [] then pt p else pt p ++ 44 :: joinT r
def textR (rs : List (Nat × Nat)) : List UInt8 := if rs = [] then [45] else joinT rs
theorem dec_ne (n : Nat) : dec n ≠ [] := by
  unfold dec
  rw [decDigits]
  split <;> simp
theorem pt_ne (p : Nat × Nat) : pt p ≠ [] := by
  unfold pt
  split
  · exact dec_ne _
  · simp
theorem joinT_ne {rs : List (Nat × Nat)} (h : rs ≠ []) : joinT rs ≠ [] := by
  cases rs with
  | nil => exact absurd rfl h
  | cons p r =>
    unfold joinT
    split
    · exact pt_ne p
    · simp
theorem joinT_snoc (d : List (Nat × Nat)) (p : Nat × Nat) : joinT (d ++ [p]) = if d = [] then pt p else joinT d ++ 44 :: pt p := by
  induction d with
  | nil => simp [joinT]
  | cons q r ih =>
    rw [List.cons_append, joinT, if_neg (by simp), ih, if_neg (List.cons_ne_nil q r), joinT]
    by_cases h : r = []
    · rw [if_pos h, if_pos h]
    · rw [if_neg h, if_neg h]; simp
/-- What the program adds to a text at a processor. -/
def addT (M : Nat) (T : List UInt8) (c : Nat) : List UInt8 :=
  if (decide (1 ≤ c) && M.testBit (c - 1)) = false then (if T = [] then dec c else T ++ 44 :: dec c)
  else if (decide (c + 1 < 16) && M.testBit (c + 1)) = false then T ++ 45 :: dec c else T

theorem fold_mid (M b : Nat) (T : List UInt8) (hb : b ≤ 15) (he : (decide (b + 1 < 16) && M.testBit (b + 1)) = false) : ∀ (n k : Nat), 1 ≤ k → k + n = b → (∀ c, k ≤ c + 1 → c ≤ b → M.testBit c = true) →
    (List.range' k (n + 1)).foldl (addT M) T = T ++ 45 :: dec b
  | 0, k, hk, hkb, hm => by
    obtain rfl : k = b := by omega
    show addT M T k = _
    unfold addT
    rw [if_neg (by rw [hm (k - 1) (by omega) (by omega)]; simp [hk]), if_pos he]
  | n + 1, k, hk, hkb, hm => by
    rw [List.range'_succ, List.foldl_cons]
    have : addT M T k = T := by
      unfold addT
      rw [if_neg (by rw [hm (k - 1) (by omega) (by omega)]; simp [hk]), if_neg (by rw [hm (k + 1) (by omega) (by omega)]; simp; omega)]
    rw [this]
    exact fold_mid M b T hb he n (k + 1) (by omega) (by omega) fun c h1 h2 => hm c (by omega) h2
theorem fold_run (M a b : Nat) (d : List (Nat × Nat)) (hab : a ≤ b) (hb : b ≤ 15) (hs : (decide (1 ≤ a) && M.testBit (a - 1)) = false) (he : (decide (b + 1 < 16) && M.testBit (b + 1)) = false)
    (hm : ∀ c, a ≤ c → c ≤ b → M.testBit c = true) : (one (a, b)).foldl (addT M) (joinT d) = joinT (d ++ [(a, b)]) := by
  have h0 : addT M (joinT d) a = if d = [] then dec a else joinT d ++ 44 :: dec a := by
    unfold addT
    rw [if_pos hs]
    by_cases c : d = []
    · subst c; rfl
    · rw [if_neg (joinT_ne c), if_neg c]
  unfold one
  show (List.range' a (b + 1 - a)).foldl (addT M) (joinT d) = _
  rw [show b + 1 - a = (b - a) + 1 by omega, List.range'_succ, List.foldl_cons, h0, joinT_snoc]
  unfold pt
  by_cases c : a = b
  · subst c
    simp
  · rw [show b - a = (b - a - 1) + 1 by omega, fold_mid M b _ hb he (b - a - 1) (a + 1) (by omega) (by omega) fun c h1 h2 => hm c (by omega) h2]
    simp only [if_neg c]
    by_cases e : d = []
    · rw [if_pos e, if_pos e]
    · rw [if_neg e, if_neg e]; simp
theorem fold_runs (M : Nat) : ∀ (rest d : List (Nat × Nat)) (lo : Nat), Ok lo rest → (∀ c, lo ≤ c + 1 → c < 16 → (M.testBit c = true ↔ c ∈ flat rest)) →
    (flat rest).foldl (addT M) (joinT d) = joinT (d ++ rest)
  | [], d, _, _, _ => by simp [flat]
  | p :: r, d, lo, h, hm => by
    obtain ⟨a, b⟩ := p
    obtain ⟨h1, h2, h3, h4⟩ := h
    simp only at h1 h2 h3 h4
    rw [flat_cons, List.foldl_append, fold_run M a b d h2 h3 ?_ ?_ ?_, fold_runs M r (d ++ [(a, b)]) (b + 2) h4 ?_]
    · simp
    · intro c c1 c2
      rw [hm c (by omega) c2, flat_cons, List.mem_append, mem_one]
      constructor
      · rintro (hc | hc)
        · have := hc.2; simp only at this; omega
        · exact hc
      · exact fun hc => .inr hc
    · by_cases c : 1 ≤ a
      · have := hm (a - 1) (by omega) (by omega)
        simp only [c, decide_true, Bool.true_and]
        rw [Bool.eq_false_iff]
        intro hc
        rw [this, flat_cons, List.mem_append, mem_one] at hc
        rcases hc with hc | hc
        · have := hc.1; simp only at this; omega
        · have := (h4.low hc).1; omega
      · simp [c]
    · by_cases c : b + 1 < 16
      · have := hm (b + 1) (by omega) (by omega)
        simp only [c, decide_true, Bool.true_and]
        rw [Bool.eq_false_iff]
        intro hc
        rw [this, flat_cons, List.mem_append, mem_one] at hc
        rcases hc with hc | hc
        · have := hc.2; simp only at this; omega
        · have := (h4.low hc).1; omega
      · simp [c]
    · intro c c1 c2
      rw [hm c (by omega) (by omega), flat_cons, List.mem_append, mem_one]
      exact .inl ⟨c1, c2⟩
/-- The text that the program makes. -/
def foldT (M : Nat) : List UInt8 := (listOf M).foldl (addT M) []
theorem fold_text (M : Nat) (rs : List (Nat × Nat)) (h : Ok 0 rs) (hf : flat rs = listOf M) : foldT M = joinT rs := by
  unfold foldT
  rw [← hf]
  have := fold_runs M rs [] 0 h fun c _ hc => by
    rw [hf, mem_list]; exact ⟨fun h => ⟨hc, h⟩, fun h => h.2⟩
  simpa [joinT] using this
/-- A set's text. -/
def textOf (M : Nat) : List UInt8 := if foldT M = [] then [45] else foldT M
theorem textOf_runs (M : Nat) (rs : List (Nat × Nat)) (h : Ok 0 rs) (hf : flat rs = listOf M) : textOf M = textR rs := by
  unfold textOf textR
  rw [fold_text M rs h hf]
  by_cases c : rs = []
  · subst c; rfl
  · rw [if_neg (joinT_ne c), if_neg c]
theorem foldT_mod (M : Nat) : foldT (M % 65536) = foldT M := by
  obtain ⟨rs, h, hf⟩ := runs_of M
  rw [fold_text M rs h hf, fold_text (M % 65536) rs h (by rw [list_mod]; exact hf)]
theorem textOf_mod (M : Nat) : textOf (M % 65536) = textOf M := by
  unfold textOf; rw [foldT_mod]
end Go.Proofs.YtjjdkkdnlnbedaaGreat.Mk


namespace Go.Proofs.YtjjdkkdnlnbedaaGreat.Mk
open Go.RowKit Mk

theorem bits_and_u32 (a b : Nat) (ha : a < 4294967296) (hb : b < 4294967296) : bits .and .u32 (a : Int) (b : Int) = ((a &&& b : Nat) : Int) := by
  have hx : a &&& b < 2 ^ 32 := Nat.and_lt_two_pow _ (by omega)
  have h1 : (BitVec.ofInt 32 (a : Int)).toNat = a := by
    rw [BitVec.ofInt_natCast, BitVec.toNat_ofNat]; exact Nat.mod_eq_of_lt (by omega)
  have h2 : (BitVec.ofInt 32 (b : Int)).toNat = b := by
    rw [BitVec.ofInt_natCast, BitVec.toNat_ofNat]; exact Nat.mod_eq_of_lt (by omega)
  show IntKind.u32.wrap ((BitVec.ofInt 32 (a : Int) &&& BitVec.ofInt 32 (b : Int)).toNat : Int) = _
  rw [BitVec.toNat_and, h1, h2, IntKind.wrap_u32]
  omega
theorem bits_or_u32 (a b : Nat) (ha : a < 4294967296) (hb : b < 4294967296) : bits .or .u32 (a : Int) (b : Int) = ((a ||| b : Nat) : Int) := by
  have hx : a ||| b < 2 ^ 32 := Nat.or_lt_two_pow (by omega) (by omega)
  have h1 : (BitVec.ofInt 32 (a : Int)).toNat = a := by
    rw [BitVec.ofInt_natCast, BitVec.toNat_ofNat]; exact Nat.mod_eq_of_lt (by omega)
  have h2 : (BitVec.ofInt 32 (b : Int)).toNat = b := by
    rw [BitVec.ofInt_natCast, BitVec.toNat_ofNat]; exact Nat.mod_eq_of_lt (by omega)
  show IntKind.u32.wrap ((BitVec.ofInt 32 (a : Int) ||| BitVec.ofInt 32 (b : Int)).toNat : Int) = _
  rw [BitVec.toNat_or, h1, h2, IntKind.wrap_u32]
  omega

theorem one_in (k : Nat) (hk : k < 16) (w : World) :
    Calls Tryz.prog 59 #[.int .i64 (k : Int)] w fun e w' => e = .returned (.int .u32 ((2 ^ k : Nat) : Int)) ∧ w' = w := by
  have : k = 0 ∨ k = 1 ∨ k = 2 ∨ k = 3 ∨ k = 4 ∨ k = 5 ∨ k = 6 ∨ k = 7 ∨ k = 8 ∨ k = 9 ∨ k = 10 ∨ k = 11 ∨ k = 12 ∨ k = 13 ∨ k = 14 ∨ k = 15 := by omega
  rcases this with rfl | rfl | rfl | rfl | rfl | rfl | rfl | rfl | rfl | rfl | rfl | rfl | rfl | rfl | rfl | rfl <;>
    (go_enter Tryz.func59, Tryz.ntmps59
     go_wp2
     go_ret
     exact ⟨rfl, rfl⟩)
theorem one_out (c : Int) (hc : c < 0 ∨ 16 ≤ c) (w : World) :
    Calls Tryz.prog 59 #[.int .i64 c] w fun e w' => e = .returned (.int .u32 0) ∧ w' = w := by
  rcases hc with h | h
  · go_enter Tryz.func59, Tryz.ntmps59
    go_wp2
    go_ret
    exact ⟨rfl, rfl⟩
  · go_enter Tryz.func59, Tryz.ntmps59
    go_wp2
    go_ret
    exact ⟨rfl, rfl⟩
/-- Whether a processor is in a set. -/
def hasB (M : Nat) (c : Int) : Bool := decide (0 ≤ c ∧ c < 16) && M.testBit c.toNat
theorem hasB_nat (M k : Nat) (hk : k < 16) : hasB M (k : Int) = M.testBit k := by
  unfold hasB
  rw [decide_eq_true (by omega), Int.toNat_natCast]; rfl
set_option maxHeartbeats 1000000 in
theorem has_any (M : Nat) (c : Int) (hM : M < 4294967296) (w : World) :
    Calls Tryz.prog 61 #[.int .u32 (M : Int), .int .i64 c] w fun e w' => e = .returned (.bool (hasB M c)) ∧ w' = w := by
  by_cases hc : 0 ≤ c ∧ c < 16
  · obtain ⟨k, rfl⟩ := Int.eq_ofNat_of_zero_le hc.1
    have hk : k < 16 := by omega
    rw [hasB_nat M k hk]
    have C1 := fun w' => hide (one_in k hk w')
    have hp : 2 ^ k < 4294967296 := Nat.lt_of_lt_of_le (Nat.pow_lt_pow_right (by omega) hk) (by decide)
    have ha := bits_and_u32 M (2 ^ k) hM hp
    have hz := and_one_ne M k
    generalize M.testBit k = b at *
    generalize M &&& 2 ^ k = Q at *
    generalize 2 ^ k = P at *
    have hz2 : ((Q : Int) == 0) = !b := by
      rw [← hz]
      by_cases e : Q = 0
      · subst e; rfl
      · rw [decide_eq_false e, beq_eq_false_iff_ne]; omega
    clear hz hp hk hc
    go_enter Tryz.func61, Tryz.ntmps61
    go_wp2_with (go_at_call 59; refine (unhide (C1 _)).mono ?_; rintro e w' ⟨rfl, rfl⟩)
    go_ret
    exact ⟨ret_bool (by rw [bne, hz2, Bool.not_not]), rfl⟩
  · have C1 := fun w' => hide (one_out c (by omega) w')
    have hb : hasB M c = false := by unfold hasB; rw [decide_eq_false hc]; rfl
    have ha := bits_and_u32 M 0 hM (by omega)
    rw [Nat.and_zero] at ha
    have ha : bits .and .u32 (M : Int) 0 = 0 := ha
    rw [hb]
    clear hb hc
    go_enter Tryz.func61, Tryz.ntmps61
    go_wp2_with (go_at_call 59; refine (unhide (C1 _)).mono ?_; rintro e w' ⟨rfl, rfl⟩)
    go_ret
    exact ⟨ret_bool (by first | rfl | (rw [ha]; rfl)), rfl⟩

theorem pop_tab : ∀ n : Fin 256, Lib.pop8 (n.val : Int) = (pop n.val : Int) := by decide +kernel
theorem pop_le (b : Nat) : pop b ≤ 8 := by
  unfold pop
  refine Nat.le_trans (List.length_filter_le _ _) ?_
  simp
theorem and255 (x : Nat) : x &&& 255 = x % 256 := Nat.and_two_pow_sub_one_eq_mod x 8
set_option maxRecDepth 100000 in
set_option maxHeartbeats 1000000 in
theorem count_any (M : Nat) (hM : M < 65536) (w : World) :
    Calls Tryz.prog 89 #[.int .u32 (M : Int)] w fun e w' => e = .returned (.int .i64 ((listOf M).length : Nat)) ∧ ∃ n, w' = w.drewN n := by
  have e0 : (M : Int) / 16777216 = 0 := by omega
  have e1 : (M : Int) / 65536 = 0 := by omega
  have a1 : bits .and .u32 0 255 = 0 := bits_and_u32 0 255 (by omega) (by omega)
  have a2 := bits_and_u32 (M / 256) 255 (by omega) (by omega)
  have a3 := bits_and_u32 M 255 (by omega) (by omega)
  rw [and255] at a2 a3
  rw [len_pop]
  have q2 := pop_tab ⟨M / 256 % 256, by omega⟩
  have q3 := pop_tab ⟨M % 256, by omega⟩
  have l2 := pop_le (M / 256 % 256)
  have l3 := pop_le (M % 256)
  have b2 : ((M / 256 % 256 : Nat) : Int) ≤ 255 := by omega
  have b3 : ((M % 256 : Nat) : Int) ≤ 255 := by omega
  have d2 : (0 : Int) ≤ ((M / 256 % 256 : Nat) : Int) := by omega
  have d3 : (0 : Int) ≤ ((M % 256 : Nat) : Int) := by omega
  have p0 : Lib.pop8 0 = 0 := by decide +kernel
  simp only at q2 q3
  generalize pop (M / 256 % 256) = P2 at *
  generalize pop (M % 256) = P3 at *
  generalize M / 256 % 256 = X2 at *
  generalize M % 256 = X3 at *
  rw [Int.natCast_ediv, show ((256 : Nat) : Int) = 256 from rfl, show ((255 : Nat) : Int) = 255 from rfl] at a2
  rw [show ((255 : Nat) : Int) = 255 from rfl] at a3
  go_enter Tryz.func89, Tryz.ntmps89
  go_wp2
  refine wp_region_quiet_lit (by kernel_rfl) (by kernel_rfl) ?_
  repeat quiet_step (fail)
  refine wpQuiet_nil ?_
  rintro _ ⟨nq, rfl⟩
  go_wp2
  go_ret
  refine ⟨ret_int ?_, nq, rfl⟩
  simp only [IntKind.wrap_u8, IntKind.wrap_i64]
  omega
set_option maxHeartbeats 1000000 in
theorem len_any (M : Nat) (hM : M < 4294967296) (w : World) :
    Calls Tryz.prog 60 #[.int .u32 (M : Int)] w fun e w' => e = .returned (.int .i64 ((listOf M).length : Nat)) ∧ ∃ n, w' = w.drewN n := by
  have a1 := bits_and_u32 M 65535 hM (by omega)
  rw [show M &&& 65535 = M % 65536 from Nat.and_two_pow_sub_one_eq_mod M 16] at a1
  have C1 := fun w' => hide (count_any (M % 65536) (by omega) w')
  rw [list_mod] at C1
  have hl := listOf_len M
  generalize (listOf M).length = n at *
  generalize M % 65536 = Q at *
  have a1 : bits .and .u32 (M : Int) 65535 = (Q : Int) := a1
  go_enter Tryz.func60, Tryz.ntmps60
  go_wp2_with (go_at_call 89; refine (unhide (C1 _)).mono ?_; rintro e w' ⟨rfl, nq, rfl⟩)
  go_ret
  exact ⟨rfl, nq, rfl⟩
end Go.Proofs.YtjjdkkdnlnbedaaGreat.Mk


/- Rows of ints that a call owns: reading, appending one, making an empty one. -/
namespace Go.Proofs.YtjjdkkdnlnbedaaGreat
open Go.RowKit

/-- A row of whole numbers that a call owns: it lies in a block from B on. -/
def Ir (w : World) (B : Nat) (v : Value) (l : List Int) : Prop := w.ownsRow B 3 1 v l.length (l.map (Value.int .i64))
theorem iInfo : (Tryz.prog.info? 3).map (fun i => (i.zero, i.size, i.bytes)) = some (some (.int .i64 0), 1, 8) := by kernel_rfl
theorem iparts {i : Option TypeInfo} {z : Value} {s b : Nat} (h : i.map (fun i => (i.zero, i.size, i.bytes)) = some (some z, s, b)) : ∃ i0, i = some i0 ∧ i0.zero = some z ∧ i0.size = s ∧ i0.bytes = b := by
  cases i with
  | none => cases h
  | some i0 =>
    simp only [Option.map_some, Option.some.injEq, Prod.mk.injEq] at h
    exact ⟨i0, rfl, h.1, h.2.1, h.2.2⟩
theorem iadd0 (g k : Nat) : (⟨g, 0, none⟩ : Addr).add k = ⟨g, k, none⟩ := by
  unfold Addr.add
  split
  · rename_i h; rw [h]
  · simp
section
variable {w w' : World} {B : Nat} {v : Value} {l : List Int}
theorem Ir.keep (h : Ir w B v l) (hb : ∀ g, B ≤ g → g < w.heap.size → w'.heap[g]? = w.heap[g]?) : Ir w' B v l := by
  refine ⟨h.1, ?_⟩
  rcases h.2 with h2 | ⟨g, cap, cur, h1, h2, h3, h4⟩
  · exact .inl h2
  · refine .inr ⟨g, cap, cur, h1, h2, ?_, h4⟩
    have hl : g < w.heap.size := (h.lt g (by rw [h1]; rfl)).2
    rw [hb g h2 hl]; exact h3
theorem Ir.below (h : Ir w B v l) (hb : Below w.heap.size w w') : Ir w' B v l := h.keep fun g _ hl => hb.block g hl
theorem Ir.mono (h : Ir w B v l) {B' : Nat} (hb : B' ≤ B) : Ir w B' v l := World.ownsRow.mono h hb
theorem Ir.nil (w : World) (B : Nat) : Ir w B (.slice none 0 0) [] := World.ownsRow_nil _ _ _ _
/-- What a row reads as. -/
theorem Ir.form (h : Ir w B v l) : ∃ a cap, v = .slice a l.length cap ∧ ∀ j x, l[j]? = some x → ∃ g, a = some ⟨g, 0, none⟩ ∧ w.cell? ⟨g, j, none⟩ = some (.int .i64 x) := by
  rcases h.2 with ⟨h2, h3⟩ | ⟨g, cap, cur, h1, h2, h3, h4⟩
  · refine ⟨none, 0, by rw [h2, h3], fun j x hj => ?_⟩
    have : l = [] := List.length_eq_zero_iff.1 h3
    subst this
    simp at hj
  · refine ⟨_, cap, h1, fun j x hj => ⟨g, rfl, ?_⟩⟩
    have e := World.ownsRow.cells h (g := g) (by rw [h1]; rfl) j (.int .i64 x) (by rw [List.getElem?_map, hj]; rfl)
    rw [iadd0] at e
    exact e
theorem Ir.grew {W : World} (h : Ir w B v l) (hb : Below B W w) (hB : B ≤ w.heap.size) {o : Obj} (hg : (w.alloc o).grownBy w' v.ownBlock) : Below B W w' :=
  (hb.alloc hB o).grown hg (by simp; omega) fun j hj => (World.ownsRow.lt h j hj).1
theorem Ir.made (w : World) (B : Nat) (cs : Array Value) (n : Nat) (hB : B ≤ w.heap.size) (hn : n ≤ 1000000) (hs : cs.size = n * 1) : Ir (w.alloc (.cells cs 3)) B (.slice (some ⟨w.heap.size, 0, none⟩) 0 n) [] :=
  World.ownsRow_made w cs n hB (by unfold maxLen; omega) hs
end
/-- Making an empty row with room for n. -/
theorem make_int (n : Nat) (hn : n ≤ 1000000) : ∃ cs : Array Value, cs.size = n * 1 ∧ ∀ w, (Instr.makeSlice 26 (.int .i64 0) (.int .i64 (n : Int))).run Tryz.prog w = .ok (.slice (some ⟨w.heap.size, 0, none⟩) 0 n) (w.alloc (.cells cs 3)) := by
  obtain ⟨i0, hi0, hz0, hz1, hz2⟩ := iparts iInfo
  refine ⟨madeCells (Value.int .i64 0).cells (n * i0.size), by rw [size_madeCells, hz1], fun w => ?_⟩
  have hr := run_make (P := Tryz.prog) w 26 3 i0 (.int .i64 0) Tryz.underlying26 hi0 hz0 .i64 .i64 0 n (Int.le_refl _) (by omega) (by rw [hz2]; omega) (by omega)
  simp only [Int.toNat_zero, Int.toNat_natCast] at hr
  exact hr
theorem app_int {ops : Array Oper} {rest : List Oper} {o : Oper} {a : Act} {Q : Exit → Act → World → Prop} {w0 : World} (hgd : o.guard = none) (s x : Operand)
    (ho : o.op = .call { callee := .builtin .append, args := #[s, x], argTypes := #[26, 26] }) (B : Nat) (v : Value) (l : List Int) (y : Int) (hs : a.eval s = v) (hrow : Ir w0 B v l)
    (g : Nat) (hg : w0.heap.size = g) (hx : a.eval x = .slice (some ⟨g, 0, none⟩) 1 1) (hB : B ≤ g) (hl : l.length ≤ 1000000)
    (h : ∀ v' w', Ir w' B v' (l ++ [y]) → (w0.alloc (.cells #[.int .i64 y] 3)).grownBy w' v.ownBlock → wpList Tryz.prog ops Q rest (a.put o.dst v') w') :
    wpList Tryz.prog ops Q (o :: rest) a (w0.alloc (.cells #[.int .i64 y] 3)) := by
  obtain ⟨i0, hi0, hz0, hz1, hz2⟩ := iparts iInfo
  refine wpList_append_own _ hgd s x 26 ho B 3 i0 (.int .i64 0) 1 8 Tryz.underlying26 hi0 hz0 hz1 hz2 rfl (by decide) v l.length (l.map (Value.int .i64)) hs (World.ownsRow.alloc hrow _) ⟨g, 0, none⟩ 1 1 [.int .i64 y] hx rfl ?_ ?_ (by unfold maxLen; omega) (by omega) (by simp; omega) ?_
  · intro j u hu
    rw [iadd0, (Blk.new_at w0 3 #[.int .i64 y] hg.symm).cell]
    simpa using hu
  · intro u hu
    simp only [List.mem_cons, List.not_mem_nil, or_false] at hu
    subst hu; rfl
  · intro v' w' h1 h2 _
    refine h v' w' ?_ h2
    unfold Ir
    rw [List.length_append, List.map_append]
    exact h1
end Go.Proofs.YtjjdkkdnlnbedaaGreat


namespace Go.Proofs.YtjjdkkdnlnbedaaGreat.Mk
open Go.RowKit Mk

def ints (l : List Nat) : List Int := l.map Int.ofNat
theorem ints_snoc (l : List Nat) (k : Nat) : ints (l ++ [k]) = ints l ++ [(k : Int)] := by simp [ints]
theorem ints_len (l : List Nat) : (ints l).length = l.length := by simp [ints]
theorem ints_at (l : List Nat) (j : Nat) (h : j < l.length) : (ints l)[j]? = some ((l[j]'h : Nat) : Int) := by simp [ints, h]

set_option maxHeartbeats 1000000 in
theorem list_any (M : Nat) (hM : M < 4294967296) (w : World) :
    Calls Tryz.prog 27 #[.int .u32 (M : Int)] w fun e w' => ∃ v, e = .returned v ∧ Ir w' w.heap.size v (ints (listOf M)) ∧ Below w.heap.size w w' := by
  obtain ⟨B, hB⟩ : ∃ B, w.heap.size = B := ⟨_, rfl⟩
  have C1 := fun w' => hide (len_any M hM w')
  have C2 := fun k w' => hide (has_any M k hM w')
  have hl := listOf_len M
  obtain ⟨cs, hcs, hmk⟩ := make_int (listOf M).length (by omega)
  have HL := hide (show upTo M 16 = listOf M from rfl)
  rw [hB]
  generalize (listOf M).length = n at *
  generalize listOf M = LM at *
  go_enter Tryz.func27, Tryz.ntmps27
  go_wp2_with (go_at_call 60; refine (unhide (C1 _)).mono ?_; rintro e w' ⟨rfl, nq, rfl⟩)
  go_loopw [3, 8] (fun v d wr => ∃ k : Nat, k ≤ 16 ∧ d = .int .i64 (k : Int) ∧ Hid (Ir wr B v (ints (upTo M k)) ∧ Below B w wr)) (fun _ d _ => 16 - (intOf d).toNat)
  case atStart =>
    refine ⟨0, by omega, rfl, hide ⟨?_, ?_⟩⟩
    · have h := Ir.made (w.drewN nq) B cs n (Nat.le_of_eq hB.symm) (by omega) hcs
      rw [show (w.drewN nq).heap.size = B from hB] at h
      exact h
    · have h1 := below_drewN w nq
      rw [hB] at h1
      exact h1.alloc (Nat.le_of_eq hB.symm) _
  case round =>
    obtain ⟨k, hk, rfl, HI⟩ := hrel
    by_cases hlt : k < 16
    · have C2 := fun w' => C2 (k : Int) w'
      rw [hasB_nat M k hlt] at C2
      have hs := upTo_succ M k
      have hul := upTo_len M k
      have hbz : B ≤ wr.heap.size := by have := (unhide HI).2.size; omega
      obtain ⟨g, hg⟩ : ∃ g, wr.heap.size = g := ⟨_, rfl⟩
      obtain ⟨L2, hL2⟩ : ∃ L, upTo M (k + 1) = L := ⟨_, rfl⟩
      rw [hL2] at hs
      have HL2 := hide hL2
      clear hL2
      generalize upTo M k = L1 at *
      cases hb : M.testBit k
      · rw [hb, if_neg (by decide)] at hs
        rw [hb] at C2
        subst hs
        clear hb
        go_wp2_with (go_at_call 61; refine (unhide (C2 _)).mono ?_; rintro e w' ⟨rfl, rfl⟩)
        go_roundw
        case rel => exact ⟨k + 1, by omega, by go_num, by rw [unhide HL2]; exact HI⟩
        case measure => simp [intOf]; omega
      · rw [hb, if_pos rfl] at hs
        rw [hb] at C2
        clear hb
        go_wp2_with (first | (go_at_call 61; refine (unhide (C2 _)).mono ?_; rintro e w' ⟨rfl, rfl⟩) | (at_builtin; refine app_int rfl _ _ rfl B u3 (ints L1) (k : Int) rfl (unhide HI).1 g hg rfl (by omega) (by rw [ints_len]; omega) ?_))
        intro v' w2 r2 g2
        have HI2 := hide (show Ir w2 B v' (ints L2) ∧ Below B w w2 by
          rw [hs, ints_snoc]
          exact ⟨r2, (unhide HI).1.grew (unhide HI).2 hbz g2⟩)
        clear r2 g2 HI
        go_wp2_with fail
        go_roundw
        case rel => exact ⟨k + 1, by omega, by go_num, by rw [unhide HL2]; exact HI2⟩
        case measure => simp [intOf]; omega
    · obtain rfl : k = 16 := by omega
      go_wp2
      go_ret
      have h := unhide HI
      rw [unhide HL] at h
      exact ⟨_, rfl, h.1, h.2⟩

theorem bit_div (M k : Nat) : M.testBit k = decide (M / 2 ^ k % 2 = 1) := Nat.testBit_eq_decide_div_mod_eq
end Go.Proofs.YtjjdkkdnlnbedaaGreat.Mk

