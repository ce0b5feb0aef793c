import Derived.Test.YtbmfnpgopafbkaaKtMath
namespace Go.Proofs.Ytbmfnpgopafbkaa.Kt

/-- What digits of 16 bits come to, the lowest first. -/
def val : List Int → Int
  | [] => 0
  | d :: t => d + 65536 * val t
theorem val_set (ds : List Int) (j : Nat) (x : Int) (h : j < ds.length) : val (ds.set j x) = val ds + (x - ds.getD j 0) * 65536 ^ j := by
  induction ds generalizing j with
  | nil => simp at h
  | cons d t ih =>
    cases j with
    | zero => simp [val]; omega
    | succ j =>
      have := ih j (by simpa using h)
      simp only [List.set_cons_succ, val, this, List.getD_cons_succ]
      rw [Int.pow_succ, Int.mul_add, ← Int.mul_assoc (x - t.getD j 0), Int.mul_comm _ 65536]
      omega
/-- The lowest k digits of a number. -/
def low (b : Int) (k : Nat) : Int := b - 65536 ^ k * (b / 65536 ^ k)
theorem low_succ (b : Int) (k : Nat) : low b (k + 1) = low b k + 65536 ^ k * (b / 65536 ^ k % 65536) := by
  unfold low
  have hp : (0 : Int) ≤ 65536 ^ k := Int.le_of_lt (Int.pow_pos (by omega))
  rw [Int.pow_succ, ← Int.ediv_ediv_of_nonneg hp]
  generalize b / 65536 ^ k = q
  generalize (65536 : Int) ^ k = p
  have h1 : q % 65536 = q - 65536 * (q / 65536) := by omega
  rw [h1, Int.mul_sub, Int.mul_assoc]
  omega
theorem low_zero (b : Int) : low b 0 = 0 := by simp [low]
theorem low_four (b : Int) (h0 : 0 ≤ b) (h1 : b < 18446744073709551616) : low b 4 = b := by
  unfold low
  have : b / 65536 ^ 4 = 0 := Int.ediv_eq_zero_of_lt h0 h1
  rw [this]; omega
/-- Digits, each below 65536. -/
def Dig (n : Nat) (ds : List Int) : Prop := ds.length = n ∧ ∀ j, 0 ≤ ds.getD j 0 ∧ ds.getD j 0 ≤ 65535
theorem Dig.set {n : Nat} {ds : List Int} (h : Dig n ds) (j : Nat) (x : Int) (h0 : 0 ≤ x) (h1 : x ≤ 65535) : Dig n (ds.set j x) := by
  refine ⟨by simp [h.1], fun i => ?_⟩
  have := h.2 i
  by_cases e : i = j
  · subst e
    by_cases hl : i < ds.length
    · simp [List.getD, hl]; omega
    · simp [List.getD, hl]
  · have e2 : (ds.set j x).getD i 0 = ds.getD i 0 := by simp [List.getD, List.getElem?_set_ne (Ne.symm e)]
    rw [e2]; exact this
theorem getD_set_ne (ds : List Int) {i j : Nat} (x : Int) (h : i ≠ j) : (ds.set j x).getD i 0 = ds.getD i 0 := by simp [List.getD, List.getElem?_set_ne (Ne.symm h)]
theorem getD_set_eq (ds : List Int) {j : Nat} (x : Int) (h : j < ds.length) : (ds.set j x).getD j 0 = x := by simp [List.getD, h]

/-- The inner loop of the product. -/
structure Inner (V X b : Int) (i k : Nat) (c : Int) (ds : List Int) : Prop where
  dig : Dig 9 ds
  c0 : 0 ≤ c
  c1 : c ≤ 65535
  zero : ∀ j, i + 4 ≤ j → ds.getD j 0 = 0
  val : val ds + c * 65536 ^ (i + k) = V + X * 65536 ^ i * low b k
theorem digit_bound (e x y c : Int) (he : 0 ≤ e ∧ e ≤ 65535) (hx : 0 ≤ x ∧ x ≤ 65535) (hy : 0 ≤ y ∧ y ≤ 65535) (hc : 0 ≤ c ∧ c ≤ 65535) : 0 ≤ x * y ∧ x * y ≤ 4294836225 ∧ 0 ≤ e + x * y + c ∧ (e + x * y + c) / 65536 ≤ 65535 := by
  have h1 := Int.mul_nonneg hx.1 hy.1
  have h2 : x * y ≤ 65535 * 65535 := Int.mul_le_mul hx.2 hy.2 hy.1 (by omega)
  omega
theorem Inner.step {V X b : Int} {i k : Nat} {c : Int} {ds : List Int} (h : Inner V X b i k c ds) (hi : i < 4) (hk : k < 4) (hX : 0 ≤ X ∧ X ≤ 65535) (t : Int) (ht : ds.getD (i + k) 0 + X * (b / 65536 ^ k % 65536) + c = t) :
    Inner V X b i (k + 1) (t / 65536) (ds.set (i + k) (t % 65536)) := by
  have hd := h.dig.2 (i + k)
  have hb := digit_bound (ds.getD (i + k) 0) X (b / 65536 ^ k % 65536) c hd hX (by omega) ⟨h.c0, h.c1⟩
  rw [ht] at hb
  refine ⟨h.dig.set _ _ (by omega) (by omega), by omega, hb.2.2.2, fun j hj => ?_, ?_⟩
  · rw [getD_set_ne _ _ (by omega)]; exact h.zero j hj
  · have hv := h.val
    rw [val_set _ _ _ (by rw [h.dig.1]; omega), low_succ, show i + (k + 1) = i + k + 1 by omega, Int.pow_succ 65536 (i + k)]
    rw [Int.pow_add] at *
    generalize b / 65536 ^ k % 65536 = y at *
    generalize ds.getD (i + k) 0 = e at *
    generalize (65536 : Int) ^ i = p at *
    generalize (65536 : Int) ^ k = q at *
    have e1 : X * p * (low b k + q * y) = X * p * low b k + X * y * (p * q) := by
      rw [Int.mul_add]; congr 1
      ac_rfl
    rw [e1, ← Int.add_assoc, ← hv]
    generalize p * q = D
    have e2 : (t % 65536 + 65536 * (t / 65536)) * D = (e + X * y + c) * D := by rw [ht]; congr 1; omega
    simp only [Int.add_mul, Int.sub_mul, Int.mul_assoc] at e2 ⊢
    have e3 : t / 65536 * (D * 65536) = 65536 * (t / 65536 * D) := by ac_rfl
    omega
/-- The outer loop. -/
structure Outer (a b : Int) (i : Nat) (ds : List Int) : Prop where
  dig : Dig 9 ds
  zero : ∀ j, i + 4 ≤ j → ds.getD j 0 = 0
  val : val ds = low a i * b
theorem Outer.start {a b : Int} {i : Nat} {ds : List Int} (h : Outer a b i ds) : Inner (low a i * b) (a / 65536 ^ i % 65536) b i 0 0 ds :=
  ⟨h.dig, by omega, by omega, h.zero, by rw [h.val, low_zero]; omega⟩
theorem Inner.close {a b : Int} {i : Nat} {c : Int} {ds : List Int} (h : Inner (low a i * b) (a / 65536 ^ i % 65536) b i 4 c ds) (hi : i < 4) (b0 : 0 ≤ b) (b1 : b < 18446744073709551616) : Outer a b (i + 1) (ds.set (i + 4) (ds.getD (i + 4) 0 + c)) := by
  have hz := h.zero (i + 4) (Nat.le_refl _)
  refine ⟨h.dig.set _ _ (by have := h.c0; omega) (by have := h.c1; omega), fun j hj => ?_, ?_⟩
  · rw [getD_set_ne _ _ (by omega)]; exact h.zero j (by omega)
  · have hv := h.val
    rw [low_four b b0 b1] at hv
    rw [val_set _ _ _ (by rw [h.dig.1]; omega), hz, low_succ, Int.add_mul]
    rw [show (0 + c - 0 : Int) = c by omega, hv]
    congr 1
    ac_rfl
theorem Outer.done {a b : Int} {ds : List Int} (h : Outer a b 4 ds) (a0 : 0 ≤ a) (a1 : a < 18446744073709551616) : Kt.val ds = a * b := by
  rw [h.val, low_four a a0 a1]
theorem Outer.first (a b : Int) : Outer a b 0 [0, 0, 0, 0, 0, 0, 0, 0, 0] := by
  refine ⟨⟨rfl, fun j => ?_⟩, fun j _ => ?_, by rw [low_zero]; simp [Kt.val]⟩
  · match j with
    | 0 | 1 | 2 | 3 | 4 | 5 | 6 | 7 | 8 => exact ⟨by decide, by decide⟩
    | j + 9 => simp
  · match j with
    | 0 | 1 | 2 | 3 | 4 | 5 | 6 | 7 | 8 => rfl
    | j + 9 => simp
end Go.Proofs.Ytbmfnpgopafbkaa.Kt
namespace Go.Proofs.Ytbmfnpgopafbkaa.Kt
theorem val_take_succ (ds : List Int) (i : Nat) (h : i < ds.length) : val (ds.take (i + 1)) = val (ds.take i) + ds.getD i 0 * 65536 ^ i := by
  induction ds generalizing i with
  | nil => simp at h
  | cons d t ih =>
    cases i with
    | zero => simp [val]
    | succ i =>
      have := ih i (by simpa using h)
      simp only [List.take_succ_cons, val, this, List.getD_cons_succ]
      rw [Int.pow_succ, Int.mul_add, ← Int.mul_assoc (t.getD i 0), Int.mul_comm _ 65536]
      omega
/-- The loop that halves. -/
structure Halve (ds : List Int) (i : Nat) (es : List Int) : Prop where
  dig : Dig 9 es
  same : ∀ j, i ≤ j → es.getD j 0 = ds.getD j 0
  small : 0 < i → es.getD (i - 1) 0 ≤ 32767
  val : val es = val ds - val (ds.take i) + val (ds.take i) / 2
theorem Halve.first (ds : List Int) (h : Dig 9 ds) : Halve ds 0 ds := ⟨h, fun _ _ => rfl, fun h => by omega, by simp [Kt.val]⟩
theorem Halve.plain {ds es : List Int} {i : Nat} (h : Halve ds i es) (hd : ds.length = 9) (hi : i < 9) (d : Int) (hdd : ds.getD i 0 = d) (hp : i = 0 ∨ d % 2 = 0) : Halve ds (i + 1) (es.set i (d / 2)) := by
  have hs := h.same i (Nat.le_refl _)
  have hb := h.dig.2 i
  rw [hs, hdd] at hb
  refine ⟨h.dig.set _ _ (by omega) (by omega), fun j hj => ?_, fun _ => ?_, ?_⟩
  · rw [getD_set_ne _ _ (by omega)]; exact h.same j (by omega)
  · rw [show i + 1 - 1 = i by omega, getD_set_eq _ _ (by rw [h.dig.1]; omega)]; omega
  · rw [val_set _ _ _ (by rw [h.dig.1]; omega), hs, hdd, h.val, val_take_succ _ _ (by omega), hdd]
    rcases hp with rfl | hp
    · simp [Kt.val]; omega
    · generalize Kt.val (ds.take i) = V
      have e : d * 65536 ^ i = 2 * (d / 2 * 65536 ^ i) := by rw [← Int.mul_assoc, show 2 * (d / 2) = d by omega]
      rw [Int.sub_mul]
      omega
theorem Halve.odd {ds es : List Int} {i : Nat} (h : Halve ds i es) (hd : ds.length = 9) (hi : i < 9) (d : Int) (hdd : ds.getD i 0 = d) (h0 : 0 < i) (hp : d % 2 = 1) : Halve ds (i + 1) ((es.set i (d / 2)).set (i - 1) (es.getD (i - 1) 0 + 32768)) := by
  have hs := h.same i (Nat.le_refl _)
  have hb := h.dig.2 i
  have hb1 := h.dig.2 (i - 1)
  have hsm := h.small h0
  rw [hs, hdd] at hb
  refine ⟨(h.dig.set _ _ (by omega) (by omega)).set _ _ (by omega) (by omega), fun j hj => ?_, fun _ => ?_, ?_⟩
  · rw [getD_set_ne _ _ (by omega), getD_set_ne _ _ (by omega)]; exact h.same j (by omega)
  · rw [show i + 1 - 1 = i by omega, getD_set_ne _ _ (by omega), getD_set_eq _ _ (by rw [h.dig.1]; omega)]; omega
  · rw [val_set _ _ _ (by rw [List.length_set, h.dig.1]; omega), val_set _ _ _ (by rw [h.dig.1]; omega), getD_set_ne _ _ (by omega), hs, hdd, h.val, val_take_succ _ _ (by omega), hdd]
    generalize Kt.val (ds.take i) = V
    obtain ⟨k, rfl⟩ : ∃ k, i = k + 1 := ⟨i - 1, by omega⟩
    rw [show k + 1 - 1 = k by omega, Int.pow_succ]
    generalize (65536 : Int) ^ k = p
    have e : d * (p * 65536) = 2 * (d / 2 * (p * 65536) + 32768 * p) := by
      have : d = 2 * (d / 2) + 1 := by omega
      conv => lhs; rw [this]
      rw [Int.add_mul, Int.mul_add, ← Int.mul_assoc 2 (d / 2)]; omega
    rw [Int.sub_mul, Int.sub_mul, Int.add_mul]
    omega
theorem Halve.done {ds es : List Int} (h : Halve ds 9 es) (hd : ds.length = 9) : Kt.val es = Kt.val ds / 2 := by
  have := h.val
  rw [List.take_of_length_le (by omega)] at this
  omega
end Go.Proofs.Ytbmfnpgopafbkaa.Kt
