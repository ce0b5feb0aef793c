/- Plain mathematics of dura: texts of durations, unit by unit. No program in sight. -/
import Derived.Test.YtcpehfjpdegmbaaDoorDgMath
import Derived.Test.YtcpehfjpdegmbaaDoorKtMath
namespace Go.Proofs.YtcpehfjpdegmbaaDoor.Du
open Go.Lib Dg Kt

def isD (c : UInt8) : Bool := decide (48 ≤ c.toNat) && decide (c.toNat ≤ 57)
def notD (c : UInt8) : Bool := !isD c
abbrev Un := Int × List UInt8
/-- The units: how long each is, and its name. -/
def units : List Un := [(86400000000000, [100]), (3600000000000, [104]), (60000000000, [109]), (1000000000, [115]), (1000000, [109, 115]), (1000, [117, 115]), (1, [110, 115])]
/-- The first part of a text: its digits, its name, and what is behind it. -/
def dg (s : List UInt8) : List UInt8 := s.takeWhile isD
def be (s : List UInt8) : List UInt8 := s.dropWhile isD
def nm (s : List UInt8) : List UInt8 := (be s).takeWhile notD
def rs (s : List UInt8) : List UInt8 := (be s).dropWhile notD
def writtenB (d : List UInt8) : Bool := !d.isEmpty && decide (d.length ≤ 18) && (d == [48] || d.head? != some 48)
def numN (d : List UInt8) : Nat := (numL d 0).getD 0
abbrev Sx := List UInt8 × Int × Bool
def stepP (x : Sx) (u : Un) : Sx := if nm x.1 = u.2 ∧ writtenB (dg x.1) = true then (rs x.1, addZ x.2.1 (mulZ u.1 (numN (dg x.1) : Int)), true) else x
/-- A sum that stops at the greatest time. -/
def capZ (z t v : Int) : Int := if 4611686018427387903 / z < v then 4611686018427387903 else if 4611686018427387903 < t + v * z then 4611686018427387903 else t + v * z
def takesR (x : Sx) (u : Un) : Bool := !(dg x.1).isEmpty && decide ((dg x.1).length ≤ 18) && u.2.isPrefixOf (be x.1) && !(u.2 == [109] && [109, 115].isPrefixOf (be x.1)) && !((dg x.1).head? == some 48 && decide (1 < (dg x.1).length))
def stepR (x : Sx) (u : Un) : Sx := if takesR x u = true then ((be x.1).drop u.2.length, capZ u.1 x.2.1 (numN (dg x.1) : Int), true) else x
def fin (x : Sx) : Int × Bool := if x.2.2 = true ∧ x.1 = [] then (x.2.1, true) else (0, false)
/-- What a text of parts tells. -/
def sumZ (s : List UInt8) : Int × Bool := fin (units.foldl stepP (s, 0, false))
def sumR (s : List UInt8) : Int × Bool := fin (units.foldl stepR (s, 0, false))

theorem cap_eq (z t v : Int) (hz : 1 ≤ z) (hz2 : z ≤ 4611686018427387903) (ht : 0 ≤ t) (ht2 : t ≤ 4611686018427387903) (hv : 0 ≤ v) : capZ z t v = addZ t (mulZ z v) := by
  have h1 := clampZ_id (t := z) (by omega) hz2
  have h0 : 0 ≤ v * z := Int.mul_nonneg hv (by omega)
  have hd : 4611686018427387903 / z < v ↔ 4611686018427387903 < v * z := Int.ediv_lt_iff_lt_mul (by omega)
  unfold capZ mulZ
  rw [h1, Int.mul_comm z v]
  generalize v * z = m at *
  unfold addZ
  have hm : clampZ (clampZ m) = if 4611686018427387903 < m then 4611686018427387903 else m := by
    rw [clampZ_idem]; unfold clampZ; split
    · rfl
    · rw [if_neg (by omega)]
  rw [hm, clampZ_id (t := t) (by omega) ht2]
  unfold clampZ
  repeat' split
  all_goals omega
theorem cap_bd (z t v : Int) (hz : 1 ≤ z) (ht : 0 ≤ t) (hv : 0 ≤ v) : 0 ≤ capZ z t v ∧ capZ z t v ≤ 4611686018427387903 := by
  have h0 : 0 ≤ v * z := Int.mul_nonneg hv (by omega)
  unfold capZ
  repeat' split
  all_goals omega
theorem split_be (s : List UInt8) : dg s ++ be s = s := List.takeWhile_append_dropWhile
theorem split_nm (s : List UInt8) : nm s ++ rs s = be s := List.takeWhile_append_dropWhile
theorem dw_head {p : UInt8 → Bool} : ∀ (l : List UInt8) (c : UInt8) (t : List UInt8), l.dropWhile p = c :: t → p c = false
  | [], c, t, h => by simp at h
  | a :: r, c, t, h => by
    rw [List.dropWhile_cons] at h
    split at h
    · exact dw_head r c t h
    · rename_i hp
      have : a = c := (List.cons.inj h).1
      subst this; simpa using hp
theorem units_ok : ∀ u ∈ units, 1 ≤ u.1 ∧ u.1 ≤ 4611686018427387903 ∧ u.2 ≠ [] ∧ (∀ c ∈ u.2, notD c = true) := by
  have : (units.all fun u => decide (1 ≤ u.1) && decide (u.1 ≤ 4611686018427387903) && !u.2.isEmpty && u.2.all notD) = true := by decide
  rw [List.all_eq_true] at this
  intro u hu
  have h := this u hu
  simp only [Bool.and_eq_true, decide_eq_true_eq, Bool.not_eq_true', List.isEmpty_eq_false_iff, List.all_eq_true] at h
  exact ⟨h.1.1.1, h.1.1.2, h.1.2, h.2⟩
theorem units_pre : ∀ u ∈ units, ∀ u' ∈ units, u.2.isPrefixOf u'.2 = true → u'.2 = u.2 ∨ (u.2 = [109] ∧ u'.2 = [109, 115]) := by
  have : (units.all fun u => units.all fun u' => !u.2.isPrefixOf u'.2 || (u'.2 == u.2 || (u.2 == [109] && u'.2 == [109, 115]))) = true := by decide
  rw [List.all_eq_true] at this
  intro u hu u' hu' hp
  have h := this u hu
  rw [List.all_eq_true] at h
  have h := h u' hu'
  rw [hp] at h
  simp only [Bool.not_true, Bool.false_or, Bool.or_eq_true, Bool.and_eq_true, beq_iff_eq] at h
  exact h
theorem tw_all {p : UInt8 → Bool} : ∀ (a b : List UInt8), (∀ c ∈ a, p c = true) → (a ++ b).takeWhile p = a ++ b.takeWhile p
  | [], b, _ => rfl
  | x :: a, b, h => by
    rw [List.cons_append, List.takeWhile_cons, if_pos (h x (by simp)), tw_all a b (fun c hc => h c (by simp [hc]))]; rfl
theorem dw_all {p : UInt8 → Bool} : ∀ (a b : List UInt8), (∀ c ∈ a, p c = true) → (a ++ b).dropWhile p = b.dropWhile p
  | [], b, _ => rfl
  | x :: a, b, h => by
    rw [List.cons_append, List.dropWhile_cons, if_pos (h x (by simp)), dw_all a b (fun c hc => h c (by simp [hc]))]
theorem tw_nil {p : UInt8 → Bool} (l : List UInt8) (h : ∀ c t, l = c :: t → p c = false) : l.takeWhile p = [] := by
  cases l with
  | nil => rfl
  | cons c t => rw [List.takeWhile_cons, if_neg (by rw [h c t rfl]; decide)]
theorem dw_self {p : UInt8 → Bool} (l : List UInt8) (h : ∀ c t, l = c :: t → p c = false) : l.dropWhile p = l := by
  cases l with
  | nil => rfl
  | cons c t => rw [List.dropWhile_cons, if_neg (by rw [h c t rfl]; decide)]
/-- Nothing more is taken off a text. -/
def Stuck (s : List UInt8) : Prop := s ≠ [] ∧ ∀ u ∈ units, nm s ≠ u.2
def Sync (x y : Sx) : Prop := (x = y ∧ 0 ≤ x.2.1 ∧ x.2.1 ≤ 4611686018427387903) ∨ (Stuck x.1 ∧ y.1 ≠ [] ∧ dg y.1 = [])
theorem written_iff (d : List UInt8) : writtenB d = true ↔ d ≠ [] ∧ d.length ≤ 18 ∧ ¬ (d.head? = some 48 ∧ 1 < d.length) := by
  unfold writtenB
  simp only [Bool.and_eq_true, Bool.or_eq_true, Bool.not_eq_true', List.isEmpty_eq_false_iff, decide_eq_true_eq, beq_iff_eq, bne_iff_ne, ne_eq]
  constructor
  · rintro ⟨⟨h1, h2⟩, h3⟩
    refine ⟨h1, h2, ?_⟩
    rintro ⟨h4, h5⟩
    rcases h3 with h3 | h3
    · rw [h3] at h5; simp at h5
    · exact h3 h4
  · rintro ⟨h1, h2, h3⟩
    refine ⟨⟨h1, h2⟩, ?_⟩
    cases d with
    | nil => exact absurd rfl h1
    | cons c t =>
      by_cases hc : c = 48
      · subst hc
        cases t with
        | nil => left; rfl
        | cons e t => exact absurd ⟨rfl, by simp⟩ h3
      · right; simpa using hc
theorem takes_iff (x : Sx) (u : Un) : takesR x u = true ↔ writtenB (dg x.1) = true ∧ u.2.isPrefixOf (be x.1) = true ∧ ¬ (u.2 = [109] ∧ [109, 115].isPrefixOf (be x.1) = true) := by
  rw [written_iff]
  unfold takesR
  simp only [Bool.and_eq_true, Bool.not_eq_true', List.isEmpty_eq_false_iff, decide_eq_true_eq, beq_iff_eq, Bool.and_eq_false_imp, decide_eq_false_iff_not, ne_eq]
  constructor
  · rintro ⟨⟨⟨⟨h1, h2⟩, h3⟩, h4⟩, h5⟩
    refine ⟨⟨h1, h2, fun h => h5 h.1 h.2⟩, h3, fun h => ?_⟩
    have := h4 h.1; rw [h.2] at this; cases this
  · rintro ⟨⟨h1, h2, h5⟩, h3, h4⟩
    refine ⟨⟨⟨⟨h1, h2⟩, h3⟩, fun h => ?_⟩, fun h h' => h5 ⟨h, h'⟩⟩
    cases e : [109, 115].isPrefixOf (be x.1)
    · rfl
    · exact absurd ⟨h, e⟩ h4
theorem rs_head (s : List UInt8) (c : UInt8) (t : List UInt8) (h : rs s = c :: t) : notD c = false := dw_head _ c t h
theorem sync_step (x y : Sx) (u : Un) (hu : u ∈ units) (h : Sync x y) : Sync (stepP x u) (stepR y u) := by
  obtain ⟨k1, k2, k3, k4⟩ := units_ok u hu
  rcases h with ⟨rfl, h0, h1⟩ | ⟨h1, h2, h3⟩
  · by_cases hp : nm x.1 = u.2 ∧ writtenB (dg x.1) = true
    · have hbe : be x.1 = u.2 ++ rs x.1 := by rw [← hp.1]; exact (split_nm _).symm
      have ht : takesR x u = true := by
        rw [takes_iff]
        refine ⟨hp.2, by rw [hbe, List.isPrefixOf_iff_prefix]; exact List.prefix_append _ _, ?_⟩
        rintro ⟨e, e2⟩
        rw [hbe, e, List.isPrefixOf_iff_prefix] at e2
        obtain ⟨z, hz⟩ := e2
        have hr : rs x.1 = 115 :: z := by simpa using hz.symm
        have := rs_head _ _ _ hr
        exact absurd this (by decide)
      left
      unfold stepP stepR
      rw [if_pos hp, if_pos ht, hbe, List.drop_left, cap_eq _ _ _ k1 k2 h0 h1 (by omega)]
      refine ⟨rfl, ?_⟩
      have := cap_bd u.1 x.2.1 (numN (dg x.1) : Int) k1 h0 (by omega)
      rw [cap_eq _ _ _ k1 k2 h0 h1 (by omega)] at this
      exact this
    · by_cases ht : takesR x u = true
      · right
        have hk := (takes_iff x u).1 ht
        unfold stepP stepR
        rw [if_neg hp, if_pos ht]
        obtain ⟨z, hz⟩ := List.isPrefixOf_iff_prefix.1 hk.2.1
        have hnm : nm x.1 = u.2 ++ z.takeWhile notD := by
          unfold nm; rw [← hz]; exact tw_all _ _ k4
        have hne : nm x.1 ≠ u.2 := fun e => hp ⟨e, hk.1⟩
        have hw : z.takeWhile notD ≠ [] := by intro e; rw [e, List.append_nil] at hnm; exact hne hnm
        have hx : x.1 ≠ [] := by
          intro e
          have := (written_iff _).1 hk.1
          rw [e] at this; exact this.1 rfl
        refine ⟨⟨hx, ?_⟩, ?_, ?_⟩
        · intro u' hu' e
          have hpre : u.2.isPrefixOf u'.2 = true := by
            rw [← e, hnm, List.isPrefixOf_iff_prefix]; exact List.prefix_append _ _
          rcases units_pre u hu u' hu' hpre with e2 | ⟨e2, e3⟩
          · exact hne (by rw [e, e2])
          · apply hk.2.2
            refine ⟨e2, ?_⟩
            rw [← e3, ← e, List.isPrefixOf_iff_prefix]
            exact ⟨rs x.1, split_nm _⟩
        · show (be x.1).drop u.2.length ≠ []
          rw [← hz, List.drop_left]
          intro e; rw [e] at hw; exact hw rfl
        · show dg ((be x.1).drop u.2.length) = []
          rw [← hz, List.drop_left]
          refine tw_nil _ ?_
          intro c t e
          subst e
          rw [List.takeWhile_cons] at hw
          split at hw
          · rename_i hc; unfold notD at hc; simpa using hc
          · exact absurd rfl hw
      · left
        unfold stepP stepR
        rw [if_neg hp, if_neg ht]
        exact ⟨rfl, h0, h1⟩
  · right
    have e1 : stepP x u = x := by unfold stepP; rw [if_neg (fun h => h1.2 u hu h.1)]
    have e2 : stepR y u = y := by
      unfold stepR
      rw [if_neg]
      intro h
      have := (written_iff _).1 ((takes_iff y u).1 h).1
      exact this.1 h3
    rw [e1, e2]; exact ⟨h1, h2, h3⟩
theorem sync_all : ∀ (l : List Un) (x y : Sx), (∀ u ∈ l, u ∈ units) → Sync x y → Sync (l.foldl stepP x) (l.foldl stepR y)
  | [], _, _, _, h => h
  | u :: l, x, y, hl, h => sync_all l _ _ (fun v hv => hl v (by simp [hv])) (sync_step x y u (hl u (by simp)) h)
theorem sync_start (s : List UInt8) : Sync (s, 0, false) (s, 0, false) := by
  left
  refine ⟨rfl, ?_, ?_⟩
  · show (0 : Int) ≤ 0; omega
  · show (0 : Int) ≤ 4611686018427387903; omega
theorem sum_same (s : List UInt8) : sumZ s = sumR s := by
  have h := sync_all units (s, 0, false) (s, 0, false) (fun _ hu => hu) (sync_start s)
  unfold sumZ sumR
  rcases h with ⟨h, _⟩ | ⟨h1, h2, _⟩
  · rw [h]
  · unfold fin
    rw [if_neg (fun h => h1.1 h.2), if_neg (fun h => h2 h.2)]

/-- A part's text. -/
def piece (n : Int) (m : List UInt8) : List UInt8 := if 0 < n then decDigits n.toNat ++ m else []
def joinU : List (Un × Int) → List UInt8
  | [] => []
  | x :: l => piece x.2 x.1.2 ++ joinU l
def total : List (Un × Int) → Int
  | [] => 0
  | x :: l => x.2 * x.1.1 + total l
theorem digit_isD {c : UInt8} (h : 48 ≤ c.toNat ∧ c.toNat ≤ 57) : isD c = true := by
  unfold isD; simp [h.1, h.2]
theorem dec_isD (v : Nat) : ∀ c ∈ decDigits v, isD c = true := fun c hc => digit_isD (dec_digit v c hc)
theorem piece_parts (v : Nat) (m r : List UInt8) (hm : m ≠ []) (hd : ∀ c ∈ m, notD c = true) (hr : ∀ c t, r = c :: t → isD c = true) :
    dg (decDigits v ++ m ++ r) = decDigits v ∧ nm (decDigits v ++ m ++ r) = m ∧ rs (decDigits v ++ m ++ r) = r := by
  have hmr : ∀ c t, m ++ r = c :: t → isD c = false := by
    intro c t e
    cases m with
    | nil => exact absurd rfl hm
    | cons a m =>
      have : a = c := (List.cons.inj e).1
      subst this
      have := hd a (by simp)
      unfold notD at this; simpa using this
  have hr' : ∀ c t, r = c :: t → notD c = false := by
    intro c t e; unfold notD; rw [hr c t e]; rfl
  have hbe : be (decDigits v ++ m ++ r) = m ++ r := by
    unfold be
    rw [List.append_assoc, dw_all _ _ (dec_isD v), dw_self _ hmr]
  refine ⟨?_, ?_, ?_⟩
  · unfold dg
    rw [List.append_assoc, tw_all _ _ (dec_isD v), tw_nil _ hmr, List.append_nil]
  · unfold nm; rw [hbe, tw_all _ _ hd, tw_nil _ hr', List.append_nil]
  · unfold rs; rw [hbe, dw_all _ _ hd, dw_self _ hr']
theorem join_head : ∀ (l : List (Un × Int)) (c : UInt8) (t : List UInt8), joinU l = c :: t → isD c = true
  | [], c, t, h => by simp [joinU] at h
  | x :: l, c, t, h => by
    unfold joinU piece at h
    split at h
    · cases e : decDigits x.2.toNat with
      | nil => exact absurd e (dec_ne _)
      | cons a r =>
        rw [e] at h
        have : a = c := (List.cons.inj h).1
        subst this
        exact dec_isD x.2.toNat a (by rw [e]; simp)
    · exact join_head l c t h
theorem nm_join : ∀ (l : List (Un × Int)), (∀ x ∈ l, x.1 ∈ units) → nm (joinU l) = [] ∨ ∃ x ∈ l, nm (joinU l) = x.1.2
  | [], _ => .inl rfl
  | x :: l, h => by
    obtain ⟨k1, k2, k3, k4⟩ := units_ok x.1 (h x (by simp))
    by_cases hp : 0 < x.2
    · right
      refine ⟨x, by simp, ?_⟩
      unfold joinU piece
      rw [if_pos hp]
      exact (piece_parts _ _ _ k3 k4 (fun c t => join_head l c t)).2.1
    · unfold joinU piece
      rw [if_neg hp]
      rcases nm_join l (fun y hy => h y (by simp [hy])) with e | ⟨y, hy, e⟩
      · exact .inl e
      · exact .inr ⟨y, by simp [hy], e⟩
theorem written_dec (v : Nat) (h : v < 1000000000000000000) : writtenB (decDigits v) = true := by
  rw [written_iff]
  refine ⟨dec_ne v, dec_length_le 17 v (by rw [show (10 : Nat) ^ (17 + 1) = 1000000000000000000 from by decide]; exact h), ?_⟩
  rintro ⟨h1, h2⟩
  rcases dec_head v with e | e
  · omega
  · exact e h1
theorem total_nonneg : ∀ (l : List (Un × Int)), (∀ x ∈ l, x.1 ∈ units ∧ 0 ≤ x.2) → 0 ≤ total l
  | [], _ => by decide
  | x :: l, h => by
    have h1 := h x (by simp)
    have h2 := total_nonneg l (fun y hy => h y (by simp [hy]))
    have h3 := Int.mul_nonneg h1.2 (show 0 ≤ x.1.1 by have := (units_ok x.1 h1.1).1; omega)
    unfold total; omega
theorem add_exact (z t v : Int) (hz : 1 ≤ z) (hz2 : z ≤ 4611686018427387903) (ht : 0 ≤ t) (hv : 0 ≤ v) (h : t + v * z ≤ 4611686018427387902) : addZ t (mulZ z v) = t + v * z := by
  have h0 : 0 ≤ v * z := Int.mul_nonneg hv (by omega)
  unfold mulZ addZ
  rw [clampZ_id (t := z) (by omega) hz2, Int.mul_comm z v]
  generalize v * z = m at *
  rw [if_neg (by omega), clampZ_idem, clampZ_id (t := m) (by omega) (by omega), clampZ_id (t := t) (by omega) (by omega), clampZ_id (by omega) (by omega)]
/-- A text of parts is read as their sum. -/
theorem read_join : ∀ (l : List (Un × Int)) (t : Int) (b : Bool), (∀ x ∈ l, x.1 ∈ units ∧ 0 ≤ x.2 ∧ x.2 < 1000000000000000000) → (l.map fun x => x.1.2).Nodup → 0 ≤ t → t + total l ≤ 4611686018427387902 →
    (l.map Prod.fst).foldl stepP (joinU l, t, b) = ([], t + total l, b || l.any fun x => decide (0 < x.2))
  | [], t, b, _, _, _, _ => by simp [joinU, total]
  | x :: l, t, b, h, hn, ht, hs => by
    obtain ⟨hu, h0, h1⟩ := h x (by simp)
    obtain ⟨k1, k2, k3, k4⟩ := units_ok x.1 hu
    have hl : ∀ y ∈ l, y.1 ∈ units ∧ 0 ≤ y.2 ∧ y.2 < 1000000000000000000 := fun y hy => h y (by simp [hy])
    rw [List.map_cons, List.nodup_cons] at hn
    have hnn := total_nonneg l (fun y hy => ⟨(hl y hy).1, (hl y hy).2.1⟩)
    have hm : 0 ≤ x.2 * x.1.1 := Int.mul_nonneg h0 (by omega)
    rw [List.map_cons, List.foldl_cons]
    unfold total at hs
    by_cases hp : 0 < x.2
    · have hpp := piece_parts x.2.toNat x.1.2 (joinU l) k3 k4 (fun c t => join_head l c t)
      have e : stepP (joinU (x :: l), t, b) x.1 = (joinU l, t + x.2 * x.1.1, true) := by
        have ej : joinU (x :: l) = decDigits x.2.toNat ++ x.1.2 ++ joinU l := by
          show piece x.2 x.1.2 ++ joinU l = _
          unfold piece; rw [if_pos hp]
        unfold stepP
        rw [ej, hpp.1, hpp.2.1, hpp.2.2, if_pos ⟨rfl, written_dec _ (by omega)⟩]
        have en : ((numN (decDigits x.2.toNat) : Nat) : Int) = x.2 := by unfold numN; rw [numL_dec]; simp; omega
        rw [en, add_exact _ _ _ k1 k2 ht h0 (by omega)]
      rw [e, read_join l _ _ hl hn.2 (by omega) (by omega)]
      rw [show total (x :: l) = x.2 * x.1.1 + total l from rfl, Int.add_assoc, List.any_cons, decide_eq_true hp]
      simp
    · have hz : x.2 = 0 := by omega
      have ej : joinU (x :: l) = joinU l := by
        show piece x.2 x.1.2 ++ joinU l = joinU l
        unfold piece; rw [if_neg hp]; rfl
      have e : stepP (joinU (x :: l), t, b) x.1 = (joinU l, t, b) := by
        unfold stepP
        rw [ej, if_neg]
        rintro ⟨e, _⟩
        rcases nm_join l (fun y hy => (hl y hy).1) with e2 | ⟨y, hy, e2⟩
        · rw [e2] at e; exact k3 e.symm
        · apply hn.1
          rw [← e, List.mem_map]
          exact ⟨y, hy, e2.symm⟩
      rw [e, read_join l t b hl hn.2 ht (by rw [hz] at hs; omega)]
      rw [show total (x :: l) = x.2 * x.1.1 + total l from rfl, hz, List.any_cons, hz]
      simp
/-- How much there is of each unit. -/
def partsOf : List Un → Int → List (Un × Int)
  | [], _ => []
  | u :: l, r => (u, r / u.1) :: partsOf l (r % u.1)
def restOf : List Un → Int → Int
  | [], r => r
  | u :: l, r => restOf l (r % u.1)
theorem parts_fst : ∀ (l : List Un) (r : Int), (partsOf l r).map Prod.fst = l
  | [], _ => rfl
  | u :: l, r => by rw [partsOf, List.map_cons, parts_fst l]
theorem parts_names (l : List Un) (r : Int) : ((partsOf l r).map fun x => x.1.2) = l.map Prod.snd := by
  have h := parts_fst l r
  have := congrArg (List.map Prod.snd) h
  rw [List.map_map] at this
  exact this
theorem parts_total : ∀ (l : List Un) (r : Int), total (partsOf l r) + restOf l r = r
  | [], r => by simp [partsOf, total, restOf]
  | u :: l, r => by
    have h := parts_total l (r % u.1)
    have e := Int.ediv_mul_add_emod r u.1
    show r / u.1 * u.1 + total (partsOf l (r % u.1)) + restOf l (r % u.1) = r
    omega
theorem parts_bd : ∀ (l : List Un) (r m : Int), (∀ u ∈ l, 1 ≤ u.1) → 0 ≤ r → r ≤ m → ∀ x ∈ partsOf l r, 0 ≤ x.2 ∧ x.2 ≤ m
  | [], _, _, _, _, _, x, hx => by simp [partsOf] at hx
  | u :: l, r, m, h, h0, h1, x, hx => by
    have hu := h u (by simp)
    have hr := Int.emod_nonneg r (show u.1 ≠ 0 by omega)
    have hr2 := Int.emod_lt_of_pos r (show 0 < u.1 by omega)
    have hq : 0 ≤ r / u.1 := Int.ediv_nonneg h0 (by omega)
    have hq2 : r / u.1 ≤ r := Int.ediv_le_self _ h0
    have hr3 : r % u.1 ≤ r := by
      have := Int.ediv_mul_add_emod r u.1
      have := Int.mul_nonneg hq (show 0 ≤ u.1 by omega)
      omega
    rw [partsOf] at hx
    rcases List.mem_cons.1 hx with rfl | hx
    · exact ⟨hq, by simp only; omega⟩
    · exact parts_bd l (r % u.1) m (fun v hv => h v (by simp [hv])) hr (by omega) x hx
theorem parts_units : ∀ (l : List Un) (r : Int), ∀ x ∈ partsOf l r, x.1 ∈ l
  | [], _, x, hx => by simp [partsOf] at hx
  | u :: l, r, x, hx => by
    rw [partsOf] at hx
    rcases List.mem_cons.1 hx with rfl | hx
    · simp
    · exact List.mem_cons_of_mem _ (parts_units l _ x hx)
theorem rest_units (r : Int) : restOf units r = 0 := by
  simp only [units, restOf, Int.emod_one]
theorem total_units (r : Int) : total (partsOf units r) = r := by
  have := parts_total units r
  rw [rest_units] at this; omega
/-- The text of a length. -/
def joinR (r : Int) : List UInt8 := joinU (partsOf units r)
def lenT (r : Int) : List UInt8 := if joinR r = [] then [48, 115] else joinR r
theorem parts_ok (r : Int) (h0 : 0 ≤ r) (h1 : r ≤ 4611686018427387902) : ∀ x ∈ partsOf units r, x.1 ∈ units ∧ 0 ≤ x.2 ∧ x.2 < 1000000000000000000 := by
  intro x hx
  refine ⟨parts_units units r x hx, (parts_bd units r r (fun u hu => (units_ok u hu).1) h0 (by omega) x hx).1, ?_⟩
  simp only [units, partsOf, List.mem_cons, List.not_mem_nil, or_false] at hx
  rcases hx with rfl | rfl | rfl | rfl | rfl | rfl | rfl
  all_goals (simp only; omega)
theorem join_zero : joinR 0 = [] := by decide
theorem join_any : ∀ (l : List (Un × Int)), (l.any fun x => decide (0 < x.2)) = false → (∀ x ∈ l, 0 ≤ x.2) → total l = 0
  | [], _, _ => rfl
  | x :: l, h, h0 => by
    rw [List.any_cons, Bool.or_eq_false_iff] at h
    have h1 := join_any l h.2 (fun y hy => h0 y (by simp [hy]))
    have h2 := h0 x (by simp)
    have h3 : x.2 = 0 := by have := h.1; simp at this; omega
    unfold total; rw [h1, h3]; simp
theorem sum_join (r : Int) (h0 : 0 < r) (h1 : r ≤ 4611686018427387902) : sumZ (joinR r) = (r, true) := by
  have hok := parts_ok r (by omega) h1
  have h := read_join (partsOf units r) 0 false hok (by rw [parts_names]; decide) (by omega) (by rw [total_units]; omega)
  rw [parts_fst, total_units] at h
  unfold sumZ joinR
  rw [h]
  have ha : ((partsOf units r).any fun x => decide (0 < x.2)) = true := by
    cases e : ((partsOf units r).any fun x => decide (0 < x.2))
    · have := join_any _ e (fun x hx => (hok x hx).2.1)
      rw [total_units] at this; omega
    · rfl
  unfold fin
  rw [ha]
  simp
theorem join_ne (r : Int) (h0 : 0 < r) (h1 : r ≤ 4611686018427387902) : joinR r ≠ [] := by
  intro e
  have := sum_join r h0 h1
  rw [e] at this
  have h2 : sumZ [] = (0, false) := by decide
  rw [h2] at this
  exact Bool.noConfusion (congrArg Prod.snd this)
theorem sum_len (r : Int) (h0 : 0 ≤ r) (h1 : r ≤ 4611686018427387902) : sumZ (lenT r) = (r, true) := by
  unfold lenT
  by_cases h : r = 0
  · subst h; rw [join_zero, if_pos rfl]; decide
  · rw [if_neg (join_ne r (by omega) h1)]; exact sum_join r (by omega) h1
theorem len_head (r : Int) : ∃ c t, lenT r = c :: t ∧ isD c = true := by
  unfold lenT
  split
  · exact ⟨48, [115], rfl, by decide⟩
  · rename_i h
    cases e : joinR r with
    | nil => exact absurd e h
    | cons c t => exact ⟨c, t, rfl, join_head _ c t e⟩
/-- The text of a duration, and what a text tells. -/
def neverL : List UInt8 := [110, 101, 118, 101, 114]
def sizeZ (t : Int) : Int := min (max (clampZ t) (-(clampZ t))) 4611686018427387902
def textZ (t : Int) : List UInt8 := if 4611686018427387903 ≤ t then neverL else if t < 0 then 45 :: lenT (sizeZ t) else lenT (sizeZ t)
def parseZ (s : List UInt8) : Int × Bool := if s = neverL then (4611686018427387903, true) else if s.head? = some 45 then (-(sumZ s.tail).1, (sumZ s.tail).2) else sumZ s
theorem size_bd (t : Int) : 0 ≤ sizeZ t ∧ sizeZ t ≤ 4611686018427387902 := by
  unfold sizeZ; omega
theorem parse_text (t : Int) : parseZ (textZ t) = (min (max t (-4611686018427387902)) 4611686018427387903, true) := by
  have hb := size_bd t
  obtain ⟨c, r, hc, hd⟩ := len_head (sizeZ t)
  have c1 : c ≠ 45 := by intro e; subst e; exact absurd hd (by decide)
  have c2 : c ≠ 110 := by intro e; subst e; exact absurd hd (by decide)
  unfold textZ
  by_cases h1 : 4611686018427387903 ≤ t
  · rw [if_pos h1]
    unfold parseZ
    rw [if_pos rfl]
    congr 1; omega
  · rw [if_neg h1]
    by_cases h2 : t < 0
    · rw [if_pos h2]
      unfold parseZ
      rw [if_neg (by intro e; exact absurd (List.cons.inj e).1 (by decide)), if_pos (by rfl), List.tail_cons, sum_len _ hb.1 hb.2]
      congr 1
      unfold sizeZ clampZ
      repeat' split
      all_goals (simp only; omega)
    · rw [if_neg h2]
      unfold parseZ
      rw [hc, if_neg (by intro e; exact c2 (List.cons.inj e).1), if_neg (by simpa using c1), ← hc, sum_len _ hb.1 hb.2]
      congr 1
      unfold sizeZ clampZ
      repeat' split
      all_goals omega
theorem sum_false (s : List UInt8) (h : (sumZ s).2 = false) : (sumZ s).1 = 0 := by
  unfold sumZ fin at *
  split at h
  · cases h
  · rename_i hn; rw [if_neg hn]
theorem fin_bd {x y : Sx} (h : Sync x y) : 0 ≤ (fin x).1 ∧ (fin x).1 ≤ 4611686018427387903 := by
  unfold fin
  rcases h with ⟨_, h⟩ | ⟨h1, _, _⟩
  · split
    · exact h
    · simp only; omega
  · rw [if_neg (fun h => h1.1 h.2)]; simp only; omega
theorem sum_bd (s : List UInt8) : 0 ≤ (sumZ s).1 ∧ (sumZ s).1 ≤ 4611686018427387903 :=
  fin_bd (sync_all units (s, 0, false) (s, 0, false) (fun _ hu => hu) (sync_start s))
end Go.Proofs.YtcpehfjpdegmbaaDoor.Du
