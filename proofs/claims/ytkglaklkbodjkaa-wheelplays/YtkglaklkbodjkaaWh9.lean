import Derived.Test.YtkglaklkbodjkaaWh8
namespace Go.Proofs.Ytkglaklkbodjkaa
open Go.RowKit Wh

/-- Slots in one row, read by level and digit. -/
def two (sl : Nat → List Int) : Nat → Nat → List Int := fun j d => sl (16 * j + d)
theorem Slots.congr' {F : Nat → Nat} {L : List Wh.Item} {S S' : Nat → Nat → List Int} (h : Slots F L S) (he : ∀ j d, j < 4 → d < 16 → S' j d = S j d) : Slots F L S' := fun j d hj hd => by rw [he j d hj hd]; exact h j d hj hd
theorem two_deal (due : Int → Nat) (now q : Nat) (sl : Nat → List Int) (j d : Nat) (hd : d < 16) : two (dealF due now q sl) j d = dealOne due now q (two sl) j d := by
  unfold two dealF dealOne
  have hq := dig_lt now q
  generalize dig now q = D at *
  split
  · unfold laidF laid taken
    rw [show (16 * j + d) / 16 = j by omega, show (16 * j + d) % 16 = d by omega]
    have e : at1 sl (16 * q + D) [] (16 * j + d) = if j = q ∧ d = D then [] else sl (16 * j + d) := by
      unfold at1
      by_cases h : j = q ∧ d = D
      · rw [if_pos h, if_pos (by omega)]
      · rw [if_neg h, if_neg (by omega)]
    rw [e]
  · rfl
theorem dealt_slots (due : Int → Nat) (now : Nat) (L : List Wh.Item) (sl : Nat → List Int) (hd : Due now L) (hu : DueIs due L) (hs : Slots (lev now) L (two sl)) : Slots (lev (now + 1)) L (two (dealtF due (now + 1) sl 0)) := by
  have h3 : Slots (lvl now 3) L (two sl) := fun j d hj hd => by
    rw [hs j d hj hd]
    exact slotBy_congr fun x _ => by rw [lvl_3]
  have h2 := Slots.congr' (deal_keep due now 2 L _ (by omega) hd hu h3) (S' := two (dealF due (now + 1) 3 sl)) (fun j d _ hd => two_deal _ _ _ _ j d hd)
  have h1 := Slots.congr' (deal_keep due now 1 L _ (by omega) hd hu h2) (S' := two (dealF due (now + 1) 2 (dealF due (now + 1) 3 sl))) (fun j d _ hd => two_deal _ _ _ _ j d hd)
  have h0 := Slots.congr' (deal_keep due now 0 L _ (by omega) hd hu h1) (S' := two (dealtF due (now + 1) sl 0)) (fun j d _ hd => two_deal _ _ _ _ j d hd)
  intro j d hj hdd
  rw [h0 j d hj hdd]
  exact slotBy_congr fun x hx => by rw [lvl_0 _ _ (hd x hx).1]
/-- What a row of items tells as a map. -/
def mapOf (L : List Wh.Item) : Int → Option Int := fun x => (L.find? fun y => decide (y.1 = x)).map fun y => (y.2 : Int)
def dueOf (L : List Wh.Item) : Int → Nat := fun x => ((L.find? fun y => decide (y.1 = x)).map fun y => y.2).getD 0
def Fresh (L : List Wh.Item) : Prop := (L.map (·.1)).Nodup
theorem find_of {L : List Wh.Item} (h : Fresh L) {x : Wh.Item} (hx : x ∈ L) : L.find? (fun y => decide (y.1 = x.1)) = some x := by
  induction L with
  | nil => cases hx
  | cons y l ih =>
    unfold Fresh at h
    rw [List.map_cons, List.nodup_cons] at h
    rw [List.find?_cons]
    rcases List.mem_cons.1 hx with rfl | hx
    · simp
    · have hne : ¬ y.1 = x.1 := fun e => h.1 (by rw [e]; exact List.mem_map.2 ⟨x, hx, rfl⟩)
      rw [decide_eq_false hne]
      exact ih h.2 hx
theorem mapOf_mem {L : List Wh.Item} (h : Fresh L) {x : Wh.Item} (hx : x ∈ L) : mapOf L x.1 = some (x.2 : Int) := by unfold mapOf; rw [find_of h hx]; rfl
theorem dueOf_mem {L : List Wh.Item} (h : Fresh L) {x : Wh.Item} (hx : x ∈ L) : dueOf L x.1 = x.2 := by unfold dueOf; rw [find_of h hx]; rfl
theorem mapOf_none {L : List Wh.Item} {k : Int} (h : k ∉ L.map (·.1)) : mapOf L k = none := by
  unfold mapOf
  rw [List.find?_eq_none.2]
  · rfl
  · intro y hy
    simp only [decide_eq_true_eq]
    exact fun e => h (List.mem_map.2 ⟨y, hy, e⟩)
theorem Fresh.filter {L : List Wh.Item} (h : Fresh L) (p : Wh.Item → Bool) : Fresh (L.filter p) := List.Nodup.sublist (List.Sublist.map _ (List.filter_sublist)) h
/-- Once the items of a tick are gone, the map tells of the others. -/
theorem gone_mapOf {L : List Wh.Item} (h : Fresh L) (t : Nat) : gone (mapOf L) ((L.filter fun x => decide (x.2 = t)).map (·.1)) = mapOf (L.filter fun x => decide (x.2 ≠ t)) := by
  funext k
  unfold gone
  by_cases hk : k ∈ L.map (·.1)
  · obtain ⟨x, hx, rfl⟩ := List.mem_map.1 hk
    by_cases ht : x.2 = t
    · rw [if_pos (List.mem_map.2 ⟨x, List.mem_filter.2 ⟨hx, decide_eq_true ht⟩, rfl⟩), mapOf_none]
      intro hm
      obtain ⟨y, hy, he⟩ := List.mem_map.1 hm
      obtain ⟨hy1, hy2⟩ := List.mem_filter.1 hy
      have : y = x := by
        have h1 := find_of h hy1
        have h2 := find_of h hx
        rw [he, h2] at h1
        cases h1; rfl
      subst this
      simp at hy2
      exact hy2 ht
    · rw [if_neg, mapOf_mem h hx, mapOf_mem (h.filter _) (List.mem_filter.2 ⟨hx, decide_eq_true ht⟩)]
      intro hm
      obtain ⟨y, hy, he⟩ := List.mem_map.1 hm
      obtain ⟨hy1, hy2⟩ := List.mem_filter.1 hy
      have : y = x := by
        have h1 := find_of h hy1
        have h2 := find_of h hx
        rw [he, h2] at h1
        cases h1; rfl
      subst this
      exact ht (of_decide_eq_true hy2)
  · rw [if_neg, mapOf_none hk, mapOf_none]
    · intro hm
      obtain ⟨y, hy, rfl⟩ := List.mem_map.1 hm
      exact hk (List.mem_map.2 ⟨y, (List.mem_filter.1 hy).1, rfl⟩)
    · intro hm
      obtain ⟨y, hy, rfl⟩ := List.mem_map.1 hm
      exact hk (List.mem_map.2 ⟨y, (List.mem_filter.1 hy).1, rfl⟩)
end Go.Proofs.Ytkglaklkbodjkaa
