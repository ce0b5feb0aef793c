/- Plain mathematics of a date's text: what looks like one, and is one. No program in sight. -/
import Derived.Test.YtjngnmpjkiafpaaDoorCvTx3
namespace Go.Proofs.YtjngnmpjkiafpaaDoor
open Go.RowKit Cv Dg

/-- Does a byte stand where it may? -/
def fitB (f c : UInt8) : Bool := if f = 48 then decide (48 ≤ c.toNat ∧ c.toNat ≤ 57) else decide (c = f)
def formL : List UInt8 := [48, 48, 48, 48, 45, 48, 48, 45, 48, 48, 84, 48, 48, 58, 48, 48, 58, 48, 48, 46, 48, 48, 48, 48, 48, 48, 48, 48, 48]
def formedP (l : List UInt8) : Prop := l.length = 29 ∧ ∀ i, i < 29 → fitB (formL.getD i 0) (l.getD i 0) = true
def sl (l : List UInt8) (a n : Nat) : List UInt8 := (l.drop a).take n
theorem numL_all : ∀ (l : List UInt8) (a : Nat), (∀ c ∈ l, 48 ≤ c.toNat ∧ c.toNat ≤ 57) → ∃ v, numL l a = some v
  | [], a, _ => ⟨a, rfl⟩
  | c :: r, a, h => by
    rw [numL, if_pos (h c (by simp))]
    exact numL_all r _ (fun x hx => h x (by simp [hx]))
theorem sl_length {l : List UInt8} (hl : l.length = 29) (a n : Nat) (h : a + n ≤ 29) : (sl l a n).length = n := by
  unfold sl; rw [List.length_take, List.length_drop]; omega
theorem sl_digits {l : List UInt8} (h : formedP l) (a n : Nat) (h29 : a + n ≤ 29) (hf : ∀ i, a ≤ i → i < a + n → formL.getD i 0 = 48) : ∃ v, numL (sl l a n) 0 = some v := by
  apply numL_all
  intro c hc
  obtain ⟨i, hi, rfl⟩ := List.mem_iff_getElem.1 hc
  have hlen := sl_length h.1 a n h29
  have h2 := h.2 (a + i) (by omega)
  rw [hf (a + i) (by omega) (by omega)] at h2
  have e : (sl l a n)[i] = l.getD (a + i) 0 := by
    have e0 : (sl l a n)[i]? = l[a + i]? := by
      unfold sl; rw [List.getElem?_take, if_pos (by omega), List.getElem?_drop]
    rw [List.getElem?_eq_getElem hi] at e0
    rw [List.getD_eq_getElem?_getD, ← e0]
    rfl
  rw [e]
  unfold fitB at h2
  rw [if_pos rfl] at h2
  simpa using h2
theorem sl_sep {l : List UInt8} (hl : l.length = 29) (a : Nat) (h : a < 29) : l.drop a = l.getD a 0 :: l.drop (a + 1) := by
  rw [List.drop_eq_getElem_cons (by omega), List.getD_eq_getElem?_getD, List.getElem?_eq_getElem (by omega)]; rfl
theorem sl_part (l : List UInt8) (a n : Nat) : l.drop a = sl l a n ++ l.drop (a + n) := by
  unfold sl
  rw [← List.drop_drop, List.take_append_drop]
/-- A text of 29 bytes, part by part. -/
theorem sl_whole {l : List UInt8} (hl : l.length = 29) :
    l = sl l 0 4 ++ l.getD 4 0 :: (sl l 5 2 ++ l.getD 7 0 :: (sl l 8 2 ++ l.getD 10 0 :: (sl l 11 2 ++ l.getD 13 0 :: (sl l 14 2 ++ l.getD 16 0 :: (sl l 17 2 ++ l.getD 19 0 :: sl l 20 9))))) := by
  have e9 : l.drop 20 = sl l 20 9 := by
    rw [sl_part l 20 9, List.drop_eq_nil_of_le (by omega), List.append_nil]
  have h0 : l = l.drop 0 := rfl
  rw [← e9, ← sl_sep hl 19 (by omega), ← sl_part l 17 2, ← sl_sep hl 16 (by omega), ← sl_part l 14 2, ← sl_sep hl 13 (by omega), ← sl_part l 11 2, ← sl_sep hl 10 (by omega), ← sl_part l 8 2, ← sl_sep hl 7 (by omega), ← sl_part l 5 2, ← sl_sep hl 4 (by omega), ← sl_part l 0 4]
  rfl
abbrev pY (l : List UInt8) : Int := numV (sl l 0 4)
abbrev pM (l : List UInt8) : Int := numV (sl l 5 2)
abbrev pD (l : List UInt8) : Int := numV (sl l 8 2)
abbrev pH (l : List UInt8) : Int := numV (sl l 11 2)
abbrev pI (l : List UInt8) : Int := numV (sl l 14 2)
abbrev pS (l : List UInt8) : Int := numV (sl l 17 2)
abbrev pX (l : List UInt8) : Int := numV (sl l 20 9)
theorem numV_pad {l : List UInt8} {v : Nat} (h : numL l 0 = some v) : l = padTo l.length (numV l).toNat ∧ numV l = v := by
  have e : numV l = v := by unfold numV; rw [h]
  rw [e]
  exact ⟨(numL_some l.length l v rfl h).1, rfl⟩
theorem sep_eq {l : List UInt8} (h : formedP l) (a : Nat) (f : UInt8) (ha : a < 29) (hf : formL.getD a 0 = f) (hn : f ≠ 48) : l.getD a 0 = f := by
  have := h.2 a ha
  rw [hf] at this
  unfold fitB at this
  rw [if_neg hn] at this
  simpa using this
theorem formed_text {l : List UInt8} (h : formedP l) : textL (pY l) (pM l) (pD l) (pH l) (pI l) (pS l) (pX l) = l := by
  have hw := sl_whole h.1
  obtain ⟨v1, h1⟩ := sl_digits h 0 4 (by omega) (by intro i _ _; rcases (show i = 0 ∨ i = 1 ∨ i = 2 ∨ i = 3 by omega) with rfl | rfl | rfl | rfl <;> rfl)
  obtain ⟨v2, h2⟩ := sl_digits h 5 2 (by omega) (by intro i _ _; rcases (show i = 5 ∨ i = 6 by omega) with rfl | rfl <;> rfl)
  obtain ⟨v3, h3⟩ := sl_digits h 8 2 (by omega) (by intro i _ _; rcases (show i = 8 ∨ i = 9 by omega) with rfl | rfl <;> rfl)
  obtain ⟨v4, h4⟩ := sl_digits h 11 2 (by omega) (by intro i _ _; rcases (show i = 11 ∨ i = 12 by omega) with rfl | rfl <;> rfl)
  obtain ⟨v5, h5⟩ := sl_digits h 14 2 (by omega) (by intro i _ _; rcases (show i = 14 ∨ i = 15 by omega) with rfl | rfl <;> rfl)
  obtain ⟨v6, h6⟩ := sl_digits h 17 2 (by omega) (by intro i _ _; rcases (show i = 17 ∨ i = 18 by omega) with rfl | rfl <;> rfl)
  obtain ⟨v7, h7⟩ := sl_digits h 20 9 (by omega) (by intro i _ _; rcases (show i = 20 ∨ i = 21 ∨ i = 22 ∨ i = 23 ∨ i = 24 ∨ i = 25 ∨ i = 26 ∨ i = 27 ∨ i = 28 by omega) with rfl | rfl | rfl | rfl | rfl | rfl | rfl | rfl | rfl <;> rfl)
  have e1 := (numV_pad h1).1
  have e2 := (numV_pad h2).1
  have e3 := (numV_pad h3).1
  have e4 := (numV_pad h4).1
  have e5 := (numV_pad h5).1
  have e6 := (numV_pad h6).1
  have e7 := (numV_pad h7).1
  rw [sl_length h.1 0 4 (by omega)] at e1
  rw [sl_length h.1 5 2 (by omega)] at e2
  rw [sl_length h.1 8 2 (by omega)] at e3
  rw [sl_length h.1 11 2 (by omega)] at e4
  rw [sl_length h.1 14 2 (by omega)] at e5
  rw [sl_length h.1 17 2 (by omega)] at e6
  rw [sl_length h.1 20 9 (by omega)] at e7
  rw [sep_eq h 4 45 (by omega) rfl (by decide), sep_eq h 7 45 (by omega) rfl (by decide), sep_eq h 10 84 (by omega) rfl (by decide), sep_eq h 13 58 (by omega) rfl (by decide), sep_eq h 16 58 (by omega) rfl (by decide), sep_eq h 19 46 (by omega) rfl (by decide)] at hw
  unfold textL
  rw [← e1, ← e2, ← e3, ← e4, ← e5, ← e6, ← e7]
  conv => rhs; rw [hw]
  simp
theorem digit_fit (v : Nat) : fitB 48 (UInt8.ofNat (48 + v % 10)) = true := by
  unfold fitB
  rw [if_pos rfl, digit_toNat _ (by omega)]
  simp; omega
theorem pad2 (v : Nat) : padTo 2 v = [UInt8.ofNat (48 + v / 10 % 10), UInt8.ofNat (48 + v % 10)] := by simp [padTo]
theorem pad4 (v : Nat) : padTo 4 v = [UInt8.ofNat (48 + v / 10 / 10 / 10 % 10), UInt8.ofNat (48 + v / 10 / 10 % 10), UInt8.ofNat (48 + v / 10 % 10), UInt8.ofNat (48 + v % 10)] := by simp only [padTo, List.nil_append, List.cons_append]
theorem pad9 (v : Nat) : ∃ a1 a2 a3 a4 a5 a6 a7 a8 a9 : Nat, padTo 9 v = [UInt8.ofNat (48 + a1 % 10), UInt8.ofNat (48 + a2 % 10), UInt8.ofNat (48 + a3 % 10), UInt8.ofNat (48 + a4 % 10), UInt8.ofNat (48 + a5 % 10), UInt8.ofNat (48 + a6 % 10), UInt8.ofNat (48 + a7 % 10), UInt8.ofNat (48 + a8 % 10), UInt8.ofNat (48 + a9 % 10)] :=
  ⟨_, _, _, _, _, _, _, _, _, by simp only [padTo, List.nil_append, List.cons_append]; rfl⟩
theorem text_formed (y m d H M S X : Int) : formedP (textL y m d H M S X) := by
  obtain ⟨a1, a2, a3, a4, a5, a6, a7, a8, a9, e9⟩ := pad9 X.toNat
  unfold textL
  rw [pad4, pad2, pad2, pad2, pad2, pad2, e9]
  refine ⟨rfl, ?_⟩
  intro i hi
  rcases (show i = 0 ∨ i = 1 ∨ i = 2 ∨ i = 3 ∨ i = 4 ∨ i = 5 ∨ i = 6 ∨ i = 7 ∨ i = 8 ∨ i = 9 ∨ i = 10 ∨ i = 11 ∨ i = 12 ∨ i = 13 ∨ i = 14 ∨ i = 15 ∨ i = 16 ∨ i = 17 ∨ i = 18 ∨ i = 19 ∨ i = 20 ∨ i = 21 ∨ i = 22 ∨ i = 23 ∨ i = 24 ∨ i = 25 ∨ i = 26 ∨ i = 27 ∨ i = 28 by omega) with rfl | rfl | rfl | rfl | rfl | rfl | rfl | rfl | rfl | rfl | rfl | rfl | rfl | rfl | rfl | rfl | rfl | rfl | rfl | rfl | rfl | rfl | rfl | rfl | rfl | rfl | rfl | rfl | rfl
  all_goals first | exact digit_fit _ | rfl
/-- The document's way: the text of what it tells is the text itself. -/
theorem text_same (l : List UInt8) : formedP l ↔ l.length = 29 ∧ textL (pY l) (pM l) (pD l) (pH l) (pI l) (pS l) (pX l) = l := by
  constructor
  · intro h; exact ⟨h.1, formed_text h⟩
  · rintro ⟨_, h⟩
    rw [← h]; exact text_formed ..
theorem part_num {l : List UInt8} (h : formedP l) : numL (sl l 0 4) 0 ≠ none ∧ numL (sl l 5 2) 0 ≠ none ∧ numL (sl l 8 2) 0 ≠ none ∧ numL (sl l 11 2) 0 ≠ none ∧ numL (sl l 14 2) 0 ≠ none ∧ numL (sl l 17 2) 0 ≠ none ∧ numL (sl l 20 9) 0 ≠ none := by
  have key : ∀ {x : List UInt8}, (∃ v, numL x 0 = some v) → numL x 0 ≠ none := by
    rintro x ⟨v, h⟩ e; rw [h] at e; cases e
  refine ⟨key (sl_digits h 0 4 (by omega) ?_), key (sl_digits h 5 2 (by omega) ?_), key (sl_digits h 8 2 (by omega) ?_), key (sl_digits h 11 2 (by omega) ?_), key (sl_digits h 14 2 (by omega) ?_), key (sl_digits h 17 2 (by omega) ?_), key (sl_digits h 20 9 (by omega) ?_)⟩
  · intro i _ _; rcases (show i = 0 ∨ i = 1 ∨ i = 2 ∨ i = 3 by omega) with rfl | rfl | rfl | rfl <;> rfl
  · intro i _ _; rcases (show i = 5 ∨ i = 6 by omega) with rfl | rfl <;> rfl
  · intro i _ _; rcases (show i = 8 ∨ i = 9 by omega) with rfl | rfl <;> rfl
  · intro i _ _; rcases (show i = 11 ∨ i = 12 by omega) with rfl | rfl <;> rfl
  · intro i _ _; rcases (show i = 14 ∨ i = 15 by omega) with rfl | rfl <;> rfl
  · intro i _ _; rcases (show i = 17 ∨ i = 18 by omega) with rfl | rfl <;> rfl
  · intro i _ _; rcases (show i = 20 ∨ i = 21 ∨ i = 22 ∨ i = 23 ∨ i = 24 ∨ i = 25 ∨ i = 26 ∨ i = 27 ∨ i = 28 by omega) with rfl | rfl | rfl | rfl | rfl | rfl | rfl | rfl | rfl <;> rfl
/-- The parts of a date's own text. -/
theorem parts_text (y m d H M S X : Int) (h : rB y m d H M S X = true) : pY (textL y m d H M S X) = y ∧ pM (textL y m d H M S X) = m ∧ pD (textL y m d H M S X) = d ∧ pH (textL y m d H M S X) = H ∧ pI (textL y m d H M S X) = M ∧ pS (textL y m d H M S X) = S ∧ pX (textL y m d H M S X) = X := by
  have hr := (rB_iff ..).1 h
  have hi := valid_in hr.1
  obtain ⟨hv, g1, g2, g3, g4, g5, g6, g7, g8⟩ := hr
  obtain ⟨i1, i2, i3, i4, i5, i6⟩ := hi
  have key : ∀ (k : Nat) (n : Int), 0 ≤ n → n.toNat < 10 ^ k → numV (padTo k n.toNat) = n := by
    intro k n h0 h1
    unfold numV
    rw [numL_padTo k n.toNat h1]
    simp; omega
  have k4 := key 4 y (by omega) (by rw [show (10 : Nat) ^ 4 = 10000 from by decide]; omega)
  have km := key 2 m (by omega) (by rw [show (10 : Nat) ^ 2 = 100 from by decide]; omega)
  have kd := key 2 d (by omega) (by rw [show (10 : Nat) ^ 2 = 100 from by decide]; omega)
  have kH := key 2 H (by omega) (by rw [show (10 : Nat) ^ 2 = 100 from by decide]; omega)
  have kM := key 2 M (by omega) (by rw [show (10 : Nat) ^ 2 = 100 from by decide]; omega)
  have kS := key 2 S (by omega) (by rw [show (10 : Nat) ^ 2 = 100 from by decide]; omega)
  have kX := key 9 X (by omega) (by rw [show (10 : Nat) ^ 9 = 1000000000 from by decide]; omega)
  clear key
  obtain ⟨a1, a2, a3, a4, a5, a6, a7, a8, a9, e9⟩ := pad9 X.toNat
  unfold textL pY pM pD pH pI pS pX
  rw [pad4] at k4 ⊢
  rw [pad2] at km kd kH kM kS
  rw [pad2, pad2, pad2, pad2, pad2, e9]
  rw [e9] at kX
  exact ⟨k4, km, kd, kH, kM, kS, kX⟩
end Go.Proofs.YtjngnmpjkiafpaaDoor
