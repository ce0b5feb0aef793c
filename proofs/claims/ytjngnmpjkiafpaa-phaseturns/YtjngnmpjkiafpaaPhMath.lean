import Derived.WalkLawsBesides
import Derived.Below
namespace Go.Proofs.Ytjngnmpjkiafpaa.Ph
open Ieee Go.RowKit

theorem hide {p : Prop} (h : p) : Hid p := h
theorem unhide {p : Prop} (h : Hid p) : p := h

/-- The word of a whole number of so many units, with its sign. -/
def fw (neg : Bool) (m : Nat) : Nat :=
  if m = 0 then double.word neg 0 else double.word neg ((m.log2 + 1022) * 4503599627370496 + m <<< (52 - m.log2))
def sg (s : Bool) (m : Nat) : Int := if s then -(m : Int) else m

theorem log2_shl (m k : Nat) (h : m ≠ 0) : (m <<< k).log2 = m.log2 + k := by
  have h1 := (Nat.log2_eq_iff h).1 rfl
  have h2 : 0 < 2 ^ k := Nat.two_pow_pos _
  have h3 : m <<< k ≠ 0 := by
    rw [Nat.shiftLeft_eq]
    have : 0 < m * 2 ^ k := Nat.mul_pos (by omega) h2
    omega
  rw [Nat.log2_eq_iff h3, Nat.shiftLeft_eq]
  constructor
  · rw [Nat.pow_add]; exact Nat.mul_le_mul_right _ h1.1
  · rw [show m.log2 + k + 1 = (m.log2 + 1) + k by omega, Nat.pow_add]
    exact Nat.mul_lt_mul_of_pos_right h1.2 h2

theorem cut_shl (way : Toward) (neg : Bool) (n k : Nat) : way.cut neg (n <<< k) k = n := by
  have hp : 0 < 2 ^ k := Nat.two_pow_pos _
  by_cases h : n = 0
  · subst h
    have z : (0 : Nat) <<< k = 0 := by simp
    have g0 : 1 <<< min k ((0 : Nat).log2 + 2) ≠ 0 := by
      rw [Nat.shiftLeft_eq, Nat.one_mul]
      have := Nat.two_pow_pos (min k ((0 : Nat).log2 + 2))
      omega
    unfold Toward.cut
    rw [z]
    generalize 1 <<< min k ((0 : Nat).log2 + 2) = g at g0
    cases way <;> simp <;> omega
  · have e : 1 <<< min k ((n <<< k).log2 + 2) = 2 ^ k := by
      rw [log2_shl n k h, Nat.min_eq_left (by omega), Nat.shiftLeft_eq, Nat.one_mul]
    have e1 : (n <<< k) / 2 ^ k = n := by rw [Nat.shiftLeft_eq, Nat.mul_div_cancel _ hp]
    have e2 : (n <<< k) % 2 ^ k = 0 := by rw [Nat.shiftLeft_eq, Nat.mul_mod_left]
    unfold Toward.cut
    rw [e]
    dsimp only
    rw [e1, e2]
    generalize 2 ^ k = g at hp
    cases way <;> simp <;> omega

theorem log2_lt53 (m : Nat) (h : m ≠ 0) (h53 : m < 9007199254740992) : m.log2 ≤ 52 := by
  have := (Nat.log2_lt h (k := 53)).2 h53
  omega
theorem norm_bounds (m : Nat) (h : m ≠ 0) (h53 : m < 9007199254740992) : 4503599627370496 ≤ m <<< (52 - m.log2) ∧ m <<< (52 - m.log2) < 9007199254740992 := by
  have l := log2_lt53 m h h53
  have e := log2_shl m (52 - m.log2) h
  have e2 : (m <<< (52 - m.log2)).log2 = 52 := by rw [e]; omega
  have h3 : m <<< (52 - m.log2) ≠ 0 := by
    rw [Nat.shiftLeft_eq]
    have : 0 < m * 2 ^ (52 - m.log2) := Nat.mul_pos (by omega) (Nat.two_pow_pos _)
    omega
  have := (Nat.log2_eq_iff h3).1 e2
  exact this

theorem nearest_shl (neg : Bool) (m k : Nat) (h53 : m < 9007199254740992) : double.nearest neg (m <<< k) (-(k : Int)) = fw neg m := by
  by_cases h : m = 0
  · subst h; simp [Format.nearest, fw]
  · have l := log2_lt53 m h h53
    have hb := norm_bounds m h h53
    have hp : 0 < 2 ^ k := Nat.two_pow_pos _
    have h3 : m <<< k ≠ 0 := by
      rw [Nat.shiftLeft_eq]
      have : 0 < m * 2 ^ k := Nat.mul_pos (by omega) hp
      omega
    unfold Format.nearest
    rw [if_neg h3, log2_shl m k h]
    have lp : double.leastPlace = -1074 := by decide
    have fb : (double.fractionBits : Int) = 52 := rfl
    have bn : double.binade = 4503599627370496 := by decide
    have ir : double.infRung = 9218868437227405312 := by decide
    have el : max (-(k : Int) + ((m.log2 + k : Nat) : Int) - (double.fractionBits : Int)) double.leastPlace = (m.log2 : Int) - 52 := by
      rw [lp, fb]; omega
    dsimp only
    rw [el, lp, bn, ir]
    have ek : Toward.even.cut neg ((m <<< k) <<< (-(k : Int) - ((m.log2 : Int) - 52)).toNat) (((m.log2 : Int) - 52) - (-(k : Int))).toNat = m <<< (52 - m.log2) := by
      by_cases c : k ≤ 52 - m.log2
      · rw [show (((m.log2 : Int) - 52) - (-(k : Int))).toNat = 0 by omega, show (-(k : Int) - ((m.log2 : Int) - 52)).toNat = 52 - m.log2 - k by omega]
        have := cut_shl .even neg ((m <<< k) <<< (52 - m.log2 - k)) 0
        rw [Nat.shiftLeft_zero] at this
        rw [this, ← Nat.shiftLeft_add]
        congr 1; omega
      · rw [show (-(k : Int) - ((m.log2 : Int) - 52)).toNat = 0 by omega, Nat.shiftLeft_zero]
        have e : m <<< k = (m <<< (52 - m.log2)) <<< (((m.log2 : Int) - 52) - (-(k : Int))).toNat := by
          rw [← Nat.shiftLeft_add]; congr 1; omega
        rw [e]; exact cut_shl ..
    rw [ek, fw, if_neg h, show ((m.log2 : Int) - 52 - -1074).toNat = m.log2 + 1022 by omega, Nat.min_eq_left (by omega)]

theorem read_fw (s : Bool) (m : Nat) (h53 : m < 9007199254740992) : ∃ k : Nat, double.read (fw s m) = .number s (m <<< k) (-(k : Int)) := by
  have lp : double.leastPlace = -1074 := by decide
  have bn : double.binade = 4503599627370496 := by decide
  have ir : double.infRung = 9218868437227405312 := by decide
  have sw : double.signWeight = 9223372036854775808 := by decide
  by_cases h : m = 0
  · subst h
    refine ⟨1074, ?_⟩
    cases s <;> decide
  · have l := log2_lt53 m h h53
    have hb := norm_bounds m h h53
    refine ⟨52 - m.log2, ?_⟩
    unfold fw
    rw [if_neg h]
    generalize hx : m <<< (52 - m.log2) = x at hb ⊢
    have hq : ((m.log2 + 1022) * 4503599627370496 + x) / 4503599627370496 = m.log2 + 1023 := by omega
    have hr : ((m.log2 + 1022) * 4503599627370496 + x) % 4503599627370496 = x - 4503599627370496 := by omega
    generalize hR : (m.log2 + 1022) * 4503599627370496 + x = R at hq hr ⊢
    have hR1 : R < 9218868437227405312 := by omega
    have hR0 : 4503599627370496 ≤ R := by omega
    have e1 : (double.word s R / 9223372036854775808 % 2 == 1) = s := by
      unfold Format.word; rw [sw]
      cases s <;> simp <;> omega
    have e2 : double.word s R % 9223372036854775808 = R := by
      unfold Format.word; rw [sw]
      cases s <;> simp <;> omega
    unfold Format.read
    dsimp only
    have n1 : ¬ R < 4503599627370496 := by omega
    have ee1 : 4503599627370496 + (x - 4503599627370496) = x := Nat.add_sub_of_le hb.1
    have ee2 : (-1074 : Int) + ((m.log2 + 1023 - 1 : Nat) : Int) = -((52 - m.log2 : Nat) : Int) := by omega
    rw [lp, bn, ir, sw, e1, e2, if_neg n1, if_pos hR1, hq, hr]
    rw [ee1]
    rw [ee2]

theorem sg_shl (s : Bool) (m k : Nat) : signed s m k = sg s m * 2 ^ k := by
  unfold signed sg
  rw [Nat.shiftLeft_eq]
  cases s <;> simp [Int.neg_mul]

theorem f64_format : FloatKind.f64.format = double := rfl

theorem mul_fw (s t : Bool) (m n : Nat) (hm : m < 9007199254740992) (hn : n < 9007199254740992) (h : m * n < 9007199254740992) :
    floatBits .mul .f64 (fw s m) (fw t n) = some (fw (s ^^ t) (m * n)) := by
  obtain ⟨i, hi⟩ := read_fw s m hm
  obtain ⟨j, hj⟩ := read_fw t n hn
  show Option.map double.write (Datum.product (double.read _) (double.read _)) = _
  rw [hi, hj]
  show some (double.nearest (s ^^ t) (m <<< i * n <<< j) (-(i : Int) + -(j : Int))) = _
  rw [show m <<< i * n <<< j = (m * n) <<< (i + j) by simp only [Nat.shiftLeft_eq, Nat.pow_add]; ac_rfl, show -(i : Int) + -(j : Int) = -((i + j : Nat) : Int) by omega, nearest_shl _ _ _ h]

theorem total_eq (s t : Bool) (m n i j : Nat) : ∃ K : Nat, min (-(i : Int)) (-(j : Int)) = -(K : Int) ∧
    signed s (m <<< i) (-(i : Int) - min (-(i : Int)) (-(j : Int))).toNat = sg s m * 2 ^ K ∧ signed t (n <<< j) (-(j : Int) - min (-(i : Int)) (-(j : Int))).toNat = sg t n * 2 ^ K := by
  refine ⟨max i j, by omega, ?_, ?_⟩
  · rw [show (-(i : Int) - min (-(i : Int)) (-(j : Int))).toNat = max i j - i by omega]
    have : m <<< i <<< (max i j - i) = m <<< (max i j) := by rw [← Nat.shiftLeft_add]; congr 1; omega
    unfold signed
    rw [this]
    exact sg_shl s m (max i j)
  · rw [show (-(j : Int) - min (-(i : Int)) (-(j : Int))).toNat = max i j - j by omega]
    have : n <<< j <<< (max i j - j) = n <<< (max i j) := by rw [← Nat.shiftLeft_add]; congr 1; omega
    unfold signed
    rw [this]
    exact sg_shl t n (max i j)

theorem pow_pos_z (K : Nat) : (0 : Int) < 2 ^ K := Int.pow_pos (by omega)

theorem sum_fw (s t : Bool) (m n : Nat) (hm : m < 9007199254740992) (hn : n < 9007199254740992) (h : (sg s m + sg t n).natAbs < 9007199254740992) :
    Option.map double.write (Datum.sum (double.read (fw s m)) (double.read (fw t n))) = some (fw (if sg s m + sg t n = 0 then s && t else decide (sg s m + sg t n < 0)) (sg s m + sg t n).natAbs) := by
  obtain ⟨i, hi⟩ := read_fw s m hm
  obtain ⟨j, hj⟩ := read_fw t n hn
  obtain ⟨K, k0, k1, k2⟩ := total_eq s t m n i j
  have hp := pow_pos_z K
  rw [hi, hj]
  unfold Datum.sum
  dsimp only
  rw [k1, k2, k0, ← Int.add_mul]
  generalize hz : sg s m + sg t n = z at h ⊢
  have e0 : (z * 2 ^ K = 0) = (z = 0) := by
    apply propext; constructor
    · intro q; rcases Int.mul_eq_zero.1 q with r | r
      · exact r
      · omega
    · intro q; rw [q]; simp
  have e1 : (z * 2 ^ K < 0) = (z < 0) := by
    apply propext; constructor
    · intro q
      by_cases c : z < 0
      · exact c
      · have := Int.mul_nonneg (show (0 : Int) ≤ z by omega) (Int.le_of_lt hp); omega
    · intro q; exact Int.mul_neg_of_neg_of_pos q hp
  simp only [e0, e1]
  have e2 : (z * 2 ^ K).natAbs = z.natAbs <<< K := by rw [Int.natAbs_mul, Nat.shiftLeft_eq, Int.natAbs_pow]; rfl
  rw [e2]
  show some (double.nearest _ (z.natAbs <<< K) (-(K : Int))) = _
  rw [nearest_shl _ _ _ h]

theorem opposite_fw (t : Bool) (n : Nat) (hn : n < 9007199254740992) : (double.read (fw t n)).opposite = double.read (fw (!t) n) := by
  have lp : double.leastPlace = -1074 := by decide
  have bn : double.binade = 4503599627370496 := by decide
  have ir : double.infRung = 9218868437227405312 := by decide
  have sw : double.signWeight = 9223372036854775808 := by decide
  have e : ∀ s R, R < 9223372036854775808 → (double.word s R / 9223372036854775808 % 2 == 1) = s := by
    intro s R h
    unfold Format.word; rw [sw]
    cases s <;> simp <;> omega
  have e2 : ∀ s R, R < 9223372036854775808 → double.word s R % 9223372036854775808 = R := by
    intro s R h
    unfold Format.word; rw [sw]
    cases s <;> simp <;> omega
  have key : ∀ R, R < 9223372036854775808 → (double.read (double.word t R)).opposite = double.read (double.word (!t) R) := by
    intro R hR
    unfold Format.read
    dsimp only
    rw [sw, e t R hR, e (!t) R hR, e2 t R hR, e2 (!t) R hR]
    repeat' split
    all_goals rfl
  unfold fw
  by_cases h : n = 0
  · rw [if_pos h, if_pos h]; exact key _ (by omega)
  · rw [if_neg h, if_neg h]
    have hb := norm_bounds n h hn
    have l := log2_lt53 n h hn
    exact key _ (by omega)

theorem sg_not (t : Bool) (n : Nat) : sg (!t) n = - sg t n := by cases t <;> simp [sg]

/-- A word tells a whole number. -/
def Rep (b : Nat) (n : Int) : Prop := ∃ s m, b = fw s m ∧ m < 9007199254740992 ∧ sg s m = n

theorem sg_natAbs (s : Bool) (m : Nat) : (sg s m).natAbs = m := by cases s <;> simp [sg]

theorem Rep.mul {x y : Nat} {a b : Int} (h1 : Rep x a) (h2 : Rep y b) (h : (a * b).natAbs < 9007199254740992) : ∃ r, floatBits .mul .f64 x y = some r ∧ Rep r (a * b) := by
  obtain ⟨s, m, rfl, hm, rfl⟩ := h1
  obtain ⟨t, n, rfl, hn, rfl⟩ := h2
  have e : (sg s m * sg t n).natAbs = m * n := by rw [Int.natAbs_mul, sg_natAbs, sg_natAbs]
  rw [e] at h
  refine ⟨_, mul_fw s t m n hm hn h, _, _, rfl, h, ?_⟩
  cases s <;> cases t <;> simp [sg, Int.neg_mul, Int.mul_neg]

theorem Rep.of_sum (b : Bool) (z : Int) (h : z.natAbs < 9007199254740992) : Rep (fw (if z = 0 then b else decide (z < 0)) z.natAbs) z := by
  refine ⟨_, _, rfl, h, ?_⟩
  unfold sg
  by_cases c : z = 0
  · subst c; simp
  · rw [if_neg c]
    by_cases d : z < 0
    · simp [d]; omega
    · simp [d]; omega

theorem Rep.add {x y : Nat} {a b : Int} (h1 : Rep x a) (h2 : Rep y b) (h : (a + b).natAbs < 9007199254740992) : ∃ r, floatBits .add .f64 x y = some r ∧ Rep r (a + b) := by
  obtain ⟨s, m, rfl, hm, rfl⟩ := h1
  obtain ⟨t, n, rfl, hn, rfl⟩ := h2
  exact ⟨_, sum_fw s t m n hm hn h, Rep.of_sum _ _ h⟩

theorem Rep.sub {x y : Nat} {a b : Int} (h1 : Rep x a) (h2 : Rep y b) (h : (a - b).natAbs < 9007199254740992) : ∃ r, floatBits .sub .f64 x y = some r ∧ Rep r (a - b) := by
  obtain ⟨s, m, rfl, hm, rfl⟩ := h1
  obtain ⟨t, n, rfl, hn, rfl⟩ := h2
  have e : sg s m - sg t n = sg s m + sg (!t) n := by rw [sg_not]; omega
  rw [e] at h ⊢
  refine ⟨_, ?_, Rep.of_sum (s && !t) _ h⟩
  · show Option.map double.write (Datum.sum (double.read _) (double.read _).opposite) = _
    rw [opposite_fw t n hn]
    exact sum_fw s (!t) m n hm hn h

theorem Rep.order {x y : Nat} {a b : Int} (h1 : Rep x a) (h2 : Rep y b) : FloatKind.f64.format.order x y = some (compare a b) := by
  obtain ⟨s, m, rfl, hm, rfl⟩ := h1
  obtain ⟨t, n, rfl, hn, rfl⟩ := h2
  obtain ⟨i, hi⟩ := read_fw s m hm
  obtain ⟨j, hj⟩ := read_fw t n hn
  obtain ⟨K, k0, k1, k2⟩ := total_eq s t m n i j
  have hp := pow_pos_z K
  show (double.read _).order (double.read _) = _
  rw [hi, hj]
  unfold Datum.order
  dsimp only
  rw [k1, k2]
  congr 1
  generalize sg s m = u
  generalize sg t n = v
  rcases Int.lt_trichotomy u v with h | h | h
  · rw [Int.compare_eq_lt.2 h, Int.compare_eq_lt.2 (Int.mul_lt_mul_of_pos_right h hp)]
  · subst h; simp
  · rw [Int.compare_eq_gt.2 h, Int.compare_eq_gt.2 (Int.mul_lt_mul_of_pos_right h hp)]

theorem Rep.toInt {x : Nat} {a : Int} (h1 : Rep x a) : floatToIntVal .f64 x .i64 = some a := by
  obtain ⟨s, m, rfl, hm, rfl⟩ := h1
  obtain ⟨i, hi⟩ := read_fw s m hm
  unfold floatToIntVal
  show (match (double.read (fw s m)).toInt .zero with | some n => _ | none => _) = _
  have e : (double.read (fw s m)).toInt .zero = some (sg s m) := by
    rw [hi]
    unfold Datum.toInt Datum.integral
    dsimp only
    rw [show (-(i : Int)).toNat = 0 by omega, show (- -(i : Int)).toNat = i by omega, Nat.shiftLeft_zero, cut_shl]
    have := sg_shl s m 0
    rw [this]; simp
  rw [e]
  dsimp only
  have := sg_natAbs s m
  rw [if_pos]
  have i0 : IntKind.i64.min = -9223372036854775808 := rfl
  have i1 : IntKind.i64.max = 9223372036854775807 := rfl
  rw [i0, i1]
  omega

theorem Rep.ofInt (n : Int) (h : n.natAbs < 9007199254740992) : Rep (floatOfInt .f64 n) n := by
  have e : floatOfInt .f64 n = fw (decide (n < 0)) n.natAbs := by
    have := nearest_shl (decide (n < 0)) n.natAbs 0 h
    rw [Nat.shiftLeft_zero] at this
    rw [← this]
    rfl
  refine ⟨_, _, e, h, ?_⟩
  unfold sg
  by_cases d : n < 0
  · simp [d]; omega
  · simp [d]; omega

theorem ord_eq (a b : Int) : (some (compare a b) == some Ordering.eq) = decide (a = b) := by
  rcases Int.lt_trichotomy a b with h | h | h
  · rw [Int.compare_eq_lt.2 h]; have : a ≠ b := by omega
    simp [this]
  · subst h; simp
  · rw [Int.compare_eq_gt.2 h]; have : a ≠ b := by omega
    simp [this]
theorem ord_lt (a b : Int) : (some (compare a b) == some Ordering.lt) = decide (a < b) := by
  rcases Int.lt_trichotomy a b with h | h | h
  · rw [Int.compare_eq_lt.2 h]; simp [h]
  · subst h; simp
  · rw [Int.compare_eq_gt.2 h]; have : ¬ a < b := by omega
    simp [this]
theorem ord_gt (a b : Int) : (some (compare a b) == some Ordering.gt) = decide (b < a) := by
  rcases Int.lt_trichotomy a b with h | h | h
  · rw [Int.compare_eq_lt.2 h]; have : ¬ b < a := by omega
    simp [this]
  · subst h; simp
  · rw [Int.compare_eq_gt.2 h]; simp [h]
theorem ord_le (a b : Int) : (some (compare a b) == some Ordering.lt || some (compare a b) == some Ordering.eq) = decide (a ≤ b) := by
  rw [ord_lt, ord_eq, ← Bool.decide_or]; congr 1; apply propext; omega
theorem ord_ge (a b : Int) : (some (compare a b) == some Ordering.gt || some (compare a b) == some Ordering.eq) = decide (b ≤ a) := by
  rw [ord_gt, ord_eq, ← Bool.decide_or]; congr 1; apply propext; omega

theorem abs_mul_le (a b : Int) (ha : a.natAbs ≤ 1048576) (hb : b.natAbs ≤ 1048576) : (a * b).natAbs ≤ 1099511627776 := by
  rw [Int.natAbs_mul]
  exact Nat.mul_le_mul ha hb

theorem Rep.cmul {a b c d : Nat} {n1 m1 n2 m2 : Int} (ha : Rep a n1) (hb : Rep b m1) (hc : Rep c n2) (hd : Rep d m2)
    (i1 : n1.natAbs ≤ 1048576) (i2 : m1.natAbs ≤ 1048576) (i3 : n2.natAbs ≤ 1048576) (i4 : m2.natAbs ≤ 1048576) :
    ∃ re im, cMulBits a b c d = some (re, im) ∧ Rep re (n1 * n2 - m1 * m2) ∧ Rep im (n1 * m2 + m1 * n2) := by
  have b1 := abs_mul_le n1 n2 i1 i3
  have b2 := abs_mul_le m1 m2 i2 i4
  have b3 := abs_mul_le n1 m2 i1 i4
  have b4 := abs_mul_le m1 n2 i2 i3
  obtain ⟨ac, e1, r1⟩ := ha.mul hc (by omega)
  obtain ⟨bd, e2, r2⟩ := hb.mul hd (by omega)
  obtain ⟨re, e3, r3⟩ := r1.sub r2 (by omega)
  obtain ⟨ad, e4, r4⟩ := ha.mul hd (by omega)
  obtain ⟨bc, e5, r5⟩ := hb.mul hc (by omega)
  obtain ⟨im, e6, r6⟩ := r4.add r5 (by omega)
  refine ⟨re, im, ?_, r3, r6⟩
  unfold cMulBits
  simp only [e1, e2, e3, e4, e5, e6, Option.bind_some]

theorem Rep.csum {a b c d : Nat} {n1 m1 n2 m2 : Int} (ha : Rep a n1) (hb : Rep b m1) (hc : Rep c n2) (hd : Rep d m2)
    (i1 : (n1 + n2).natAbs < 9007199254740992) (i2 : (m1 + m2).natAbs < 9007199254740992) :
    ∃ re im, cSumBits .add .f64 a b c d = some (re, im) ∧ Rep re (n1 + n2) ∧ Rep im (m1 + m2) := by
  obtain ⟨re, e1, r1⟩ := ha.add hc i1
  obtain ⟨im, e2, r2⟩ := hb.add hd i2
  refine ⟨re, im, ?_, r1, r2⟩
  unfold cSumBits
  simp only [e1, e2, Option.bind_some]

theorem and3 (q : Int) : bits .and .i64 q 3 = q % 4 := by
  have e : (BitVec.ofInt 64 q &&& BitVec.ofInt 64 3).toNat = (q % 4).toNat := by
    have h3 : (BitVec.ofInt 64 3).toNat = 2 ^ 2 - 1 := by decide
    rw [BitVec.toNat_and, h3, Nat.and_two_pow_sub_one_eq_mod, BitVec.toNat_ofInt]
    omega
  show IntKind.i64.wrap ((BitVec.ofInt 64 q &&& BitVec.ofInt 64 3).toNat : Int) = _
  rw [e, IntKind.wrap_i64]
  omega
end Go.Proofs.Ytjngnmpjkiafpaa.Ph
