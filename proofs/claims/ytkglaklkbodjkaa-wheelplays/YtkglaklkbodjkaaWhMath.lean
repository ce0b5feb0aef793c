/- Plain mathematics of a wheel of four levels of sixteen slots. No program in sight. -/
import Derived.Lib.IndexMore
namespace Go.Proofs.Ytkglaklkbodjkaa.Wh

/-- One digit of a tick. -/
def dig (t j : Nat) : Nat := t / 16 ^ j % 16
/-- The level at which items of a tick wait. -/
def lev (now t : Nat) : Nat := if t / 16 = now / 16 then 0 else if t / 256 = now / 256 then 1 else if t / 4096 = now / 4096 then 2 else 3
theorem lev_le (now t : Nat) : lev now t ≤ 3 := by
  unfold lev
  split
  · omega
  · split
    · omega
    · split <;> omega
/-- An item: its number, and the tick at which it is due. -/
abbrev Item := Int × Nat
/-- The items that a level function lays into a slot, in their order. -/
def slotBy (f : Nat → Nat) (L : List Item) (j d : Nat) : List Int := (L.filter fun x => decide (f x.2 = j ∧ dig x.2 j = d)).map (·.1)
/-- All items are due later than now, at most so far ahead. -/
def Due (now : Nat) (L : List Item) : Prop := ∀ x ∈ L, now < x.2 ∧ x.2 ≤ now + 65535
/-- What the slots hold. -/
def Slots (f : Nat → Nat) (L : List Item) (sl : Nat → Nat → List Int) : Prop := ∀ j d, j < 4 → d < 16 → sl j d = slotBy f L j d
/-- The level at a time between: levels above q are dealt. -/
def lvl (now q t : Nat) : Nat := if lev now t ≤ q then lev now t else max q (lev (now + 1) t)
theorem lvl_3 (now t : Nat) : lvl now 3 t = lev now t := by
  unfold lvl
  rw [if_pos (lev_le now t)]
theorem lev_mono (now t : Nat) (h : now < t) : lev (now + 1) t ≤ lev now t := by
  unfold lev
  (repeat' split) <;> omega
theorem lvl_0 (now t : Nat) (h : now < t) : lvl now 0 t = lev (now + 1) t := by
  have := lev_mono now t h
  unfold lvl
  split <;> omega
/-- The powers, written out. -/
theorem pw (q : Nat) (h : q < 4) : (q = 0 ∧ 16 ^ q = 1) ∨ (q = 1 ∧ 16 ^ q = 16) ∨ (q = 2 ∧ 16 ^ q = 256) ∨ (q = 3 ∧ 16 ^ q = 4096) := by
  rcases (show q = 0 ∨ q = 1 ∨ q = 2 ∨ q = 3 by omega) with rfl | rfl | rfl | rfl <;> simp
/-- A level that isn't dealt now changes nothing. -/
theorem lvl_keep (now q t : Nat) (h : now < t) (hq : q < 3) (hm : (now + 1) % 16 ^ (q + 1) ≠ 0) : lvl now (q + 1) t = lvl now q t := by
  unfold lvl lev
  rcases (show q = 0 ∨ q = 1 ∨ q = 2 by omega) with rfl | rfl | rfl <;> simp at hm ⊢ <;> (repeat' split) <;> omega
/-- A level that is dealt: what it holds in the slot of now goes one level down; all else stays. -/
theorem lvl_deal (now q t : Nat) (h : now < t) (h2 : t ≤ now + 65535) (hq : q < 3) (hm : (now + 1) % 16 ^ (q + 1) = 0) :
    lvl now (q + 1) t ≠ q ∧ (lvl now q t = q ↔ lvl now (q + 1) t = q + 1 ∧ dig t (q + 1) = dig (now + 1) (q + 1)) ∧ (lvl now q t ≠ q → lvl now q t = lvl now (q + 1) t) ∧ q ≤ lvl now q t := by
  unfold lvl lev dig
  rcases (show q = 0 ∨ q = 1 ∨ q = 2 by omega) with rfl | rfl | rfl <;> simp at hm ⊢ <;> (repeat' split) <;> omega

theorem dig_lt (t j : Nat) : dig t j < 16 := Nat.mod_lt _ (by decide)
theorem slotBy_congr {f g : Nat → Nat} {L : List Item} {j d : Nat} (h : ∀ x ∈ L, (f x.2 = j ∧ dig x.2 j = d ↔ g x.2 = j ∧ dig x.2 j = d)) : slotBy f L j d = slotBy g L j d := by
  unfold slotBy
  congr 1
  apply List.filter_congr
  intro x hx
  rw [decide_eq_decide]
  exact h x hx
/-- The items of a slot, each laid one level down behind what lies there. -/
def laid (due : Int → Nat) (lv : Nat) (ids : List Int) (sl : Nat → Nat → List Int) : Nat → Nat → List Int :=
  fun j d => if j = lv then sl j d ++ ids.filter (fun i => decide (dig (due i) lv = d)) else sl j d
/-- A slot is emptied. -/
def taken (lv dg : Nat) (sl : Nat → Nat → List Int) : Nat → Nat → List Int := fun j d => if j = lv ∧ d = dg then [] else sl j d
/-- One level's dealing. -/
def dealOne (due : Int → Nat) (now q : Nat) (sl : Nat → Nat → List Int) : Nat → Nat → List Int :=
  if now % 16 ^ q = 0 then laid due (q - 1) (sl q (dig now q)) (taken q (dig now q) sl) else sl
/-- What the items are due at. -/
def DueIs (due : Int → Nat) (L : List Item) : Prop := ∀ x ∈ L, due x.1 = x.2
theorem deal_keep (due : Int → Nat) (now q : Nat) (L : List Item) (sl : Nat → Nat → List Int) (hq : q < 3) (hd : Due now L) (hu : DueIs due L) (hs : Slots (lvl now (q + 1)) L sl) : Slots (lvl now q) L (dealOne due (now + 1) (q + 1) sl) := by
  unfold dealOne
  by_cases hm : (now + 1) % 16 ^ (q + 1) = 0
  · rw [if_pos hm]
    intro j d hj hdd
    have hlv : ∀ x ∈ L, lvl now (q + 1) x.2 ≠ q ∧ (lvl now q x.2 = q ↔ lvl now (q + 1) x.2 = q + 1 ∧ dig x.2 (q + 1) = dig (now + 1) (q + 1)) ∧ (lvl now q x.2 ≠ q → lvl now q x.2 = lvl now (q + 1) x.2) ∧ q ≤ lvl now q x.2 :=
      fun x hx => lvl_deal now q x.2 (hd x hx).1 (hd x hx).2 hq hm
    have hdg := dig_lt (now + 1) (q + 1)
    generalize dig (now + 1) (q + 1) = dg at *
    rw [show q + 1 - 1 = q by omega]
    unfold laid taken
    by_cases hjq : j = q
    · subst hjq
      rw [if_pos rfl, if_neg (by omega), hs j d hj hdd, hs (j + 1) dg (by omega) hdg]
      have e0 : slotBy (lvl now (j + 1)) L j d = [] := by
        unfold slotBy
        rw [List.filter_eq_nil_iff.2]
        · rfl
        · intro x hx
          have := (hlv x hx).1
          simp [this]
      rw [e0, List.nil_append]
      unfold slotBy
      rw [List.filter_map, List.filter_filter]
      congr 1
      apply List.filter_congr
      intro x hx
      have h2 := (hlv x hx).2.1
      show (decide (dig (due x.1) j = d) && decide (lvl now (j + 1) x.2 = j + 1 ∧ dig x.2 (j + 1) = dg)) = decide (lvl now j x.2 = j ∧ dig x.2 j = d)
      rw [hu x hx, ← Bool.decide_and, decide_eq_decide, h2]
      exact ⟨fun h => ⟨h.2, h.1⟩, fun h => ⟨h.2, h.1⟩⟩
    · rw [if_neg hjq]
      by_cases hjq1 : j = q + 1
      · subst hjq1
        by_cases hd2 : d = dg
        · subst hd2
          rw [if_pos ⟨rfl, rfl⟩]
          symm
          unfold slotBy
          rw [List.filter_eq_nil_iff.2]
          · rfl
          · intro x hx
            obtain ⟨h1, h2, h3, h4⟩ := hlv x hx
            simp only [decide_eq_true_eq]
            rintro ⟨a1, a2⟩
            have h5 := h3 (by omega)
            have h6 := h2.2 ⟨by omega, a2⟩
            omega
        · rw [if_neg (fun h => hd2 h.2), hs (q + 1) d hj hdd]
          refine slotBy_congr fun x hx => ?_
          obtain ⟨h1, h2, h3, h4⟩ := hlv x hx
          constructor
          · rintro ⟨a1, a2⟩
            have h5 : lvl now q x.2 ≠ q := fun h => hd2 (by rw [← a2]; exact (h2.1 h).2)
            exact ⟨by rw [h3 h5]; exact a1, a2⟩
          · rintro ⟨a1, a2⟩
            exact ⟨by rw [← h3 (by omega)]; exact a1, a2⟩
      · rw [if_neg (fun h => hjq1 h.1), hs j d hj hdd]
        refine slotBy_congr fun x hx => ?_
        obtain ⟨h1, h2, h3, h4⟩ := hlv x hx
        by_cases h5 : lvl now q x.2 = q
        · have := h2.1 h5
          constructor
          · rintro ⟨a1, a2⟩; omega
          · rintro ⟨a1, a2⟩; omega
        · rw [h3 h5]
  · rw [if_neg hm]
    intro j d hj hdd
    rw [hs j d hj hdd]
    exact slotBy_congr fun x hx => by rw [lvl_keep now q x.2 (hd x hx).1 hq hm]
/-- All that is dealt in one tick. -/
def deals (due : Int → Nat) (now : Nat) (sl : Nat → Nat → List Int) : Nat → Nat → List Int := dealOne due now 1 (dealOne due now 2 (dealOne due now 3 sl))
theorem deals_slots (due : Int → Nat) (now : Nat) (L : List Item) (sl : Nat → Nat → List Int) (hd : Due now L) (hu : DueIs due L) (hs : Slots (lev now) L sl) : Slots (lev (now + 1)) L (deals due (now + 1) sl) := by
  have h3 : Slots (lvl now 3) L sl := fun j d hj hdd => by
    rw [hs j d hj hdd]
    exact slotBy_congr fun x hx => by rw [lvl_3]
  have h0 := deal_keep due now 0 L _ (by omega) hd hu (deal_keep due now 1 L _ (by omega) hd hu (deal_keep due now 2 L _ (by omega) hd hu h3))
  intro j d hj hdd
  show dealOne due (now + 1) 1 _ j d = _
  rw [h0 j d hj hdd]
  exact slotBy_congr fun x hx => by rw [lvl_0 now x.2 (hd x hx).1]
/-- What is due in a tick lies in its slot of the lowest level. -/
theorem fire_slot (now : Nat) (L : List Item) : slotBy (lev now) L 0 (dig now 0) = (L.filter fun x => decide (x.2 = now)).map (·.1) := by
  unfold slotBy
  congr 1
  apply List.filter_congr
  intro x _
  rw [decide_eq_decide]
  unfold lev dig
  constructor
  · rintro ⟨h1, h2⟩
    have : x.2 / 16 = now / 16 := by
      by_cases e : x.2 / 16 = now / 16
      · exact e
      · rw [if_neg e] at h1
        split at h1
        · cases h1
        · split at h1 <;> cases h1
    simp at h2
    omega
  · intro h
    rw [h]
    simp
theorem fire_rest (now : Nat) (L : List Item) (sl : Nat → Nat → List Int) (hs : Slots (lev now) L sl) : Slots (lev now) (L.filter fun x => decide (x.2 ≠ now)) (taken 0 (dig now 0) sl) := by
  intro j d hj hdd
  unfold taken
  by_cases h : j = 0 ∧ d = dig now 0
  · obtain ⟨rfl, rfl⟩ := h
    rw [if_pos ⟨rfl, rfl⟩, fire_slot]
    rw [List.filter_filter, List.filter_eq_nil_iff.2]
    · rfl
    · intro x _
      simp
  · rw [if_neg h, hs j d hj hdd]
    unfold slotBy
    rw [List.filter_filter]
    congr 1
    apply List.filter_congr
    intro x _
    by_cases e : x.2 = now
    · have h1 : lev now x.2 = 0 := by rw [e]; unfold lev; simp
      have : ¬ (lev now x.2 = j ∧ dig x.2 j = d) := fun h2 => h ⟨by omega, by rw [← h2.2, e, ← h2.1, h1]⟩
      simp [this]
    · simp [e]
/-- A new item lies behind all others of its slot. -/
theorem put_slots (now : Nat) (L : List Item) (id : Int) (t : Nat) (sl : Nat → Nat → List Int) (hs : Slots (lev now) L sl) :
    Slots (lev now) (L ++ [(id, t)]) (fun j d => if j = lev now t ∧ d = dig t (lev now t) then sl j d ++ [id] else sl j d) := by
  intro j d hj hdd
  have e : slotBy (lev now) (L ++ [(id, t)]) j d = slotBy (lev now) L j d ++ if lev now t = j ∧ dig t j = d then [id] else [] := by
    unfold slotBy
    rw [List.filter_append, List.map_append]
    congr 1
    by_cases c : lev now t = j ∧ dig t j = d
    · rw [if_pos c]; simp [c]
    · rw [if_neg c]; simp [c]
  rw [e, ← hs j d hj hdd]
  show (if j = lev now t ∧ d = dig t (lev now t) then sl j d ++ [id] else sl j d) = _
  by_cases c : lev now t = j ∧ dig t j = d
  · rw [if_pos ⟨c.1.symm, by rw [c.1]; exact c.2.symm⟩, if_pos c]
  · rw [if_neg (fun h => c ⟨h.1.symm, by rw [h.1]; exact h.2.symm⟩), if_neg c, List.append_nil]
end Go.Proofs.Ytkglaklkbodjkaa.Wh
