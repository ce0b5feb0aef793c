import Derived.Test.YtjjdkkdnlnbedaaGreatBaD
/- What the law's plain row tells of a base's six rows. -/
namespace Go.Proofs.YtjjdkkdnlnbedaaGreat.Qu
open Kt

/-- A timer stands ahead of another one, or with it. -/
def befB (a b : Tmr) : Bool := if a.clock ≠ b.clock then decide (a.clock < b.clock) else if a.lazy ≠ b.lazy then !a.lazy else decide (clampZ a.soft ≤ clampZ b.soft)
theorem befB_lt {a b : Tmr} (ha : 0 ≤ a.clock) (hb : 0 ≤ b.clock) (h : ixT a < ixT b) : befB a b = true := by
  unfold befB ixT at *
  cases h1 : a.lazy <;> cases h2 : b.lazy <;> simp [h1, h2] at h ⊢ <;> (try split) <;> (try simp) <;> omega
theorem befB_gt {a b : Tmr} (ha : 0 ≤ a.clock) (hb : 0 ≤ b.clock) (h : ixT b < ixT a) : befB a b = false := by
  unfold befB ixT at *
  cases h1 : a.lazy <;> cases h2 : b.lazy <;> simp [h1, h2] at h ⊢ <;> (try split) <;> (try simp) <;> omega
theorem ix_eq {a b : Tmr} (ha : 0 ≤ a.clock) (hb : 0 ≤ b.clock) (h : ixT a = ixT b) : a.clock = b.clock ∧ a.lazy = b.lazy := by
  unfold ixT at h
  cases h1 : a.lazy <;> cases h2 : b.lazy <;> simp [h1, h2] at h ⊢ <;> omega
theorem befB_eq {a b : Tmr} (ha : 0 ≤ a.clock) (hb : 0 ≤ b.clock) (h : ixT a = ixT b) : befB a b = decide (clampZ a.soft ≤ clampZ b.soft) := by
  obtain ⟨h1, h2⟩ := ix_eq ha hb h
  unfold befB
  rw [if_neg (by simpa using h1), if_neg (by simpa using h2)]
theorem insT_cut (t : Tmr) : ∀ L : List Tmr, ∃ A B, L = A ++ B ∧ insT t L = A ++ t :: B ∧ (∀ y ∈ A, clampZ y.soft ≤ clampZ t.soft) ∧ (∀ y S, B = y :: S → clampZ t.soft < clampZ y.soft)
  | [] => ⟨[], [], rfl, rfl, (fun y hy => by cases hy), fun y S e => by cases e⟩
  | z :: r => by
    by_cases h : clampZ z.soft ≤ clampZ t.soft
    · obtain ⟨A, B, e1, e2, e3, e4⟩ := insT_cut t r
      refine ⟨z :: A, B, by rw [e1]; rfl, ?_, fun y hy => ?_, e4⟩
      · show (if _ then _ else _ : List Tmr) = _
        rw [if_pos h, e2]; rfl
      · rcases List.mem_cons.1 hy with rfl | hy
        · exact h
        · exact e3 y hy
    · refine ⟨[], z :: r, rfl, ?_, (fun y hy => by cases hy), fun y S e => by cases e; omega⟩
      show (if _ then _ else _ : List Tmr) = _
      rw [if_neg h]; rfl
/-- Where a timer comes into the whole row. -/
theorem put_parts {R : Rows6} (h : Rok R) {t : Tmr} (h0 : 0 ≤ t.clock) (h2 : t.clock ≤ 2) : ∃ X Y, allT R = X ++ Y ∧ allT (putT R t) = X ++ t :: Y ∧ (∀ y ∈ X, befB y t = true) ∧ (∀ y S, Y = y :: S → befB y t = false) := by
  have hi := ixT_lt h0 h2
  obtain ⟨A, B, e1, e2, e3, e4⟩ := insT_cut t (R (ixT t))
  refine ⟨upT R (ixT t) ++ A, B ++ downT R (ixT t), ?_, ?_, fun y hy => ?_, fun y S e => ?_⟩
  · rw [allT_split R hi, e1]; simp
  · unfold putT
    rw [allT_set R hi, e2]; simp
  · rcases List.mem_append.1 hy with hy | hy
    · obtain ⟨j, hj, hm⟩ := mem_upT.1 hy
      obtain ⟨q1, q2, q3⟩ := h.ix j y (by omega) hm
      exact befB_lt q2 h0 (by omega)
    · obtain ⟨q1, q2, q3⟩ := h.ix _ y hi (by rw [e1]; exact List.mem_append_left _ hy)
      rw [befB_eq q2 h0 q1]
      exact decide_eq_true (e3 y hy)
  · cases B with
    | nil =>
      have hm : y ∈ downT R (ixT t) := by rw [show downT R (ixT t) = y :: S from e]; simp
      obtain ⟨j, hj, hj6, hm⟩ := mem_downT hm
      obtain ⟨q1, q2, q3⟩ := h.ix j y hj6 hm
      exact befB_gt q2 h0 (by omega)
    | cons z B =>
      have e' : z = y := by have := congrArg (fun l : List Tmr => l.head?) e; simpa using this
      subst e'
      obtain ⟨q1, q2, q3⟩ := h.ix _ z hi (by rw [e1]; simp)
      rw [befB_eq q2 h0 q1]
      exact decide_eq_false (by have := e4 z B rfl; omega)
theorem nd_split : ∀ {X Y X2 Y2 : List Tmr} {t t2 : Tmr}, (idsT (X ++ t :: Y)).Nodup → X ++ t :: Y = X2 ++ t2 :: Y2 → t.id = t2.id → X = X2 ∧ t = t2 ∧ Y = Y2
  | [], Y, [], Y2, t, t2, _, e, _ => by cases e; exact ⟨rfl, rfl, rfl⟩
  | [], Y, x :: X2, Y2, t, t2, hn, e, hid => by
    exfalso
    cases e
    unfold idsT at hn
    simp only [List.nil_append, List.map_cons, List.nodup_cons] at hn
    exact hn.1 (List.mem_map.2 ⟨t2, (show t2 ∈ X2 ++ t2 :: Y2 by simp), hid.symm⟩)
  | x :: X, Y, [], Y2, t, t2, hn, e, hid => by
    exfalso
    have e1 : x = t2 := by have := congrArg (fun l : List Tmr => l.head?) e; simpa using this
    subst e1
    unfold idsT at hn
    simp only [List.cons_append, List.map_cons, List.map_append, List.nodup_cons] at hn
    exact hn.1 (List.mem_append_right _ (by rw [← hid]; simp))
  | x :: X, Y, x2 :: X2, Y2, t, t2, hn, e, hid => by
    have e1 : x = x2 := by have := congrArg (fun l : List Tmr => l.head?) e; simpa using this
    have e2 : X ++ t :: Y = X2 ++ t2 :: Y2 := by have := congrArg (fun l : List Tmr => l.tail) e; simpa using this
    have hn2 : (idsT (X ++ t :: Y)).Nodup := by
      unfold idsT at hn ⊢
      simp only [List.cons_append, List.map_cons, List.nodup_cons] at hn
      exact hn.2
    obtain ⟨a, b, c⟩ := nd_split hn2 e2 hid
    exact ⟨by rw [e1, a], b, c⟩
/-- A timer goes out of the whole row: out of one of the six. -/
theorem drop_parts {R : Rows6} (h : Rok R) {X Y : List Tmr} {t : Tmr} (e : allT R = X ++ t :: Y) : ∃ i A B, i < 6 ∧ R i = A ++ t :: B ∧ allT (setT R i (A ++ B)) = X ++ Y := by
  obtain ⟨i, A, B, t', hi, e1, e2, -, -⟩ := h.find (id := t.id) (by rw [e]; unfold idsT; simp)
  have e3 : allT R = (upT R i ++ A) ++ t' :: (B ++ downT R i) := by rw [allT_split R hi, e1]; simp
  have hn := h.nd
  rw [e3] at hn
  obtain ⟨a, b, c⟩ := nd_split hn (e3.symm.trans e) e2
  subst b
  refine ⟨i, A, B, hi, e1, ?_⟩
  rw [allT_set R hi, ← a, ← c]
  simp
/-- Which timers fire. -/
def firB (f : Nat → Int) (lz : Bool) (t : Tmr) : Bool := decide (t.lazy = lz) && decide (dueT (f t.clock.toNat) t)
theorem due_mono {now : Int} {x y : Tmr} (h : clampZ x.soft ≤ clampZ y.soft) (hy : dueT now y) : dueT now x := by
  refine ⟨?_, by have := hy.2; omega⟩
  have h1 := hy.1
  unfold clampZ at h
  repeat' split at h
  all_goals omega
theorem takeW {now : Int} : ∀ {l : List Tmr}, SrtT l → l.takeWhile (fun t => decide (dueT now t)) = l.filter (fun t => decide (dueT now t)) ∧ l.dropWhile (fun t => decide (dueT now t)) = l.filter (fun t => !decide (dueT now t))
  | [], _ => ⟨rfl, rfl⟩
  | z :: l, h => by
    obtain ⟨h1, h2⟩ := List.pairwise_cons.1 h
    obtain ⟨i1, i2⟩ := takeW (now := now) h2
    by_cases hz : dueT now z
    · have e := decide_eq_true hz
      simp only [List.takeWhile_cons, List.dropWhile_cons, List.filter_cons, e, if_true, Bool.not_true]
      exact ⟨by rw [i1], by rw [i2]; rfl⟩
    · have e := decide_eq_false hz
      have hno : ∀ y ∈ l, ¬ dueT now y := fun y hy hd => hz (due_mono (h1 y hy) hd)
      simp only [List.takeWhile_cons, List.dropWhile_cons, List.filter_cons, e, Bool.not_false, if_true]
      refine ⟨?_, ?_⟩
      · symm
        show l.filter _ = []
        rw [List.filter_eq_nil_iff]
        intro y hy
        simp [hno y hy]
      · show z :: l = z :: _
        rw [List.filter_eq_self.2]
        intro y hy
        simp [hno y hy]
theorem row_fir {R : Rows6} (h : Rok R) (f : Nat → Int) (lz : Bool) {i : Nat} (hi : i < 6) :
    (if decide (i % 2 = 1) = lz then dueP (f (i / 2)) (R i) else []) = (R i).filter (firB f lz) ∧ (if decide (i % 2 = 1) = lz then dueS (f (i / 2)) (R i) else R i) = (R i).filter (fun t => !firB f lz t) := by
  have key : ∀ t ∈ R i, t.lazy = decide (i % 2 = 1) ∧ t.clock.toNat = i / 2 := by
    intro t ht
    obtain ⟨q1, q2, q3⟩ := h.ix i t hi ht
    unfold ixT at q1
    cases hl : t.lazy <;> simp [hl] at q1 ⊢ <;> omega
  by_cases hz : decide (i % 2 = 1) = lz
  · rw [if_pos hz, if_pos hz]
    obtain ⟨t1, t2⟩ := takeW (now := f (i / 2)) (h.srt i hi)
    unfold dueP dueS
    rw [t1, t2]
    have e : ∀ t ∈ R i, firB f lz t = decide (dueT (f (i / 2)) t) := fun t ht => by
      obtain ⟨k1, k2⟩ := key t ht
      unfold firB
      rw [k1, k2, hz]
      simp
    exact ⟨(List.filter_congr fun t ht => (e t ht).symm), (List.filter_congr fun t ht => by rw [e t ht])⟩
  · rw [if_neg hz, if_neg hz]
    have e : ∀ t ∈ R i, firB f lz t = false := fun t ht => by
      obtain ⟨k1, k2⟩ := key t ht
      unfold firB
      rw [k1, decide_eq_false hz, Bool.false_and]
    refine ⟨?_, ?_⟩
    · symm; rw [List.filter_eq_nil_iff]; intro t ht; simp [e t ht]
    · symm; rw [List.filter_eq_self]; intro t ht; simp [e t ht]
theorem expL_fir {R : Rows6} (h : Rok R) (f : Nat → Int) (lz : Bool) : ∀ i, i ≤ 6 → expL R f lz i = (upT R i).filter (firB f lz)
  | 0, _ => rfl
  | i + 1, hi => by
    show expL R f lz i ++ _ = (upT R i ++ R i).filter _
    rw [expL_fir h f lz i (by omega), (row_fir h f lz (i := i) (by omega)).1, List.filter_append]
theorem expR_fir {R : Rows6} (h : Rok R) (f : Nat → Int) (lz : Bool) : allT (expR R f lz 6) = (allT R).filter (fun t => !firB f lz t) := by
  have key : ∀ i, i ≤ 6 → upT (expR R f lz 6) i = (upT R i).filter (fun t => !firB f lz t) := by
    intro i
    induction i with
    | zero => intro _; rfl
    | succ i ih =>
      intro hi
      show upT (expR R f lz 6) i ++ expR R f lz 6 i = (upT R i ++ R i).filter _
      rw [ih (by omega), List.filter_append, ← (row_fir h f lz (i := i) (by omega)).2]
      congr 1
      unfold expR
      by_cases hz : decide (i % 2 = 1) = lz
      · rw [if_pos hz, if_pos ⟨by omega, hz⟩]
      · rw [if_neg hz, if_neg (fun q => hz q.2)]
  exact key 6 (Nat.le_refl _)
theorem duF_fir {R : Rows6} (f : Nat → Int) (lz : Bool) : ∀ i, duF R f lz i = decide (0 < (expL R f lz i).length)
  | 0 => rfl
  | i + 1 => by
    have ih := duF_fir (R := R) f lz i
    show du1 (R i) lz (decide (i % 2 = 1)) (f (i / 2)) (duF R f lz i) = decide (0 < (expL R f lz i ++ (if decide (i % 2 = 1) = lz then dueP (f (i / 2)) (R i) else [])).length)
    rw [ih, List.length_append]
    unfold du1
    cases hl : R i with
    | nil =>
      simp only
      congr 1
      have : (if decide (i % 2 = 1) = lz then dueP (f (i / 2)) ([] : List Tmr) else []).length = 0 := by split <;> rfl
      rw [this, Nat.add_zero]
    | cons t l =>
      simp only
      by_cases hz : decide (i % 2 = 1) = lz
      · rw [if_pos hz]
        by_cases hd : dueT (f (i / 2)) t
        · rw [if_pos ⟨hz, hd⟩]
          symm
          apply decide_eq_true
          unfold dueP
          rw [List.takeWhile_cons, if_pos (decide_eq_true hd), List.length_cons]
          omega
        · rw [if_neg (fun q => hd q.2)]
          congr 1
          unfold dueP
          rw [List.takeWhile_cons, if_neg (by simpa using hd), List.length_nil, Nat.add_zero]
      · rw [if_neg (fun q => hz q.1), if_neg hz, List.length_nil, Nat.add_zero]
/-- The least of some. -/
def mnF (f : Nat → Int) (lz : Bool) (L : List Tmr) (m : Int) : Int := L.foldl (fun m t => if lz || !t.lazy then min m (subZ t.soft (f t.clock.toNat)) else m) m
theorem subZ_clamp {a b : Int} (c : Int) (h : clampZ a ≤ clampZ b) : subZ a c ≤ subZ b c := by
  by_cases hb : 4611686018427387903 ≤ b
  · have h1 : subZ b c = 4611686018427387903 := by unfold subZ; rw [if_pos hb]
    have := subZ_bd a c; omega
  · have ha : ¬ 4611686018427387903 ≤ a := by
      intro ha
      unfold clampZ at h
      repeat' split at h
      all_goals omega
    unfold subZ
    rw [if_neg hb, if_neg ha]
    exact clampZ_mono (by omega)
theorem firstZ_two (d s : Int) (hd : -4611686018427387903 ≤ d ∧ d ≤ 4611686018427387903) (hs : -4611686018427387903 ≤ s ∧ s ≤ 4611686018427387903) : firstZ [d, s] = min d s := by
  unfold firstZ
  simp only [List.foldl_cons, List.foldl_nil]
  rw [clampZ_id hd.1 hd.2, clampZ_id hs.1 hs.2]
  omega
theorem nxF_mn {R : Rows6} (h : Rok R) (f : Nat → Int) (lz : Bool) : ∀ i, i ≤ 6 → nxF R f lz i = mnF f lz (upT R i) 4611686018427387903 ∧ -4611686018427387903 ≤ nxF R f lz i ∧ nxF R f lz i ≤ 4611686018427387903
  | 0, _ => ⟨rfl, by show (-4611686018427387903 : Int) ≤ 4611686018427387903; omega, Int.le_refl _⟩
  | i + 1, hi => by
    obtain ⟨e1, e2, e3⟩ := nxF_mn h f lz i (by omega)
    have key : ∀ t ∈ R i, t.lazy = decide (i % 2 = 1) ∧ t.clock.toNat = i / 2 := by
      intro t ht
      obtain ⟨q1, q2, q3⟩ := h.ix i t (by omega) ht
      unfold ixT at q1
      cases hl : t.lazy <;> simp [hl] at q1 ⊢ <;> omega
    show nx1 (R i) lz (decide (i % 2 = 1)) (f (i / 2)) (nxF R f lz i) = mnF f lz (upT R i ++ R i) _ ∧ -4611686018427387903 ≤ nx1 (R i) lz (decide (i % 2 = 1)) (f (i / 2)) (nxF R f lz i) ∧ nx1 (R i) lz (decide (i % 2 = 1)) (f (i / 2)) (nxF R f lz i) ≤ _
    have e4 : mnF f lz (upT R i ++ R i) 4611686018427387903 = mnF f lz (R i) (nxF R f lz i) := by rw [e1]; unfold mnF; rw [List.foldl_append]
    rw [e4]
    generalize nxF R f lz i = d at *
    have srt := h.srt i (by omega)
    cases hl : R i with
    | nil => exact ⟨rfl, e2, e3⟩
    | cons t l =>
      rw [hl] at key srt
      obtain ⟨k1, k2⟩ := key t (by simp)
      have hs := subZ_bd t.soft (f (i / 2))
      unfold nx1
      simp only
      by_cases hz : (lz || !decide (i % 2 = 1)) = true
      · rw [if_pos hz, firstZ_two _ _ ⟨e2, e3⟩ hs]
        refine ⟨?_, by omega, by omega⟩
        unfold mnF
        rw [List.foldl_cons, k1, if_pos hz, k2]
        have : ∀ (l : List Tmr) (m : Int), (∀ y ∈ l, m ≤ subZ y.soft (f y.clock.toNat)) → l.foldl (fun m t => if lz || !t.lazy then min m (subZ t.soft (f t.clock.toNat)) else m) m = m := by
          intro l
          induction l with
          | nil => intro m _; rfl
          | cons y l ih =>
            intro m hm
            rw [List.foldl_cons]
            have h1 := hm y (by simp)
            have h2 : (if lz || !y.lazy then min m (subZ y.soft (f y.clock.toNat)) else m) = m := by split <;> omega
            rw [h2]
            exact ih m (fun z hz => hm z (by simp [hz]))
        rw [this]
        intro y hy
        obtain ⟨k3, k4⟩ := key y (by simp [hy])
        rw [k4]
        have := subZ_clamp (f (i / 2)) ((List.pairwise_cons.1 srt).1 y hy)
        omega
      · rw [if_neg hz]
        refine ⟨?_, e2, e3⟩
        unfold mnF
        have : ∀ (l : List Tmr) (m : Int), (∀ y ∈ l, y.lazy = decide (i % 2 = 1)) → l.foldl (fun m t => if lz || !t.lazy then min m (subZ t.soft (f t.clock.toNat)) else m) m = m := by
          intro l
          induction l with
          | nil => intro m _; rfl
          | cons y l ih =>
            intro m hm
            rw [List.foldl_cons, hm y (by simp), if_neg hz]
            exact ih m (fun z hz => hm z (by simp [hz]))
        rw [this]
        intro y hy
        exact (key y hy).1
theorem next_mn {R : Rows6} (h : Rok R) (f : Nat → Int) (lz : Bool) : nxF R f lz 6 = mnF f lz (allT R) 4611686018427387903 := (nxF_mn h f lz 6 (Nat.le_refl _)).1
theorem exp_fir {R : Rows6} (h : Rok R) (f : Nat → Int) (lz : Bool) : expL R f lz 6 = (allT R).filter (firB f lz) := expL_fir h f lz 6 (Nat.le_refl _)
theorem due_fir {R : Rows6} (h : Rok R) (f : Nat → Int) (lz : Bool) : duF R f lz 6 = decide (0 < ((allT R).filter (firB f lz)).length) := by rw [duF_fir, exp_fir h]
end Go.Proofs.YtjjdkkdnlnbedaaGreat.Qu

