import Derived.Test.YtkglaklkbodjkaaWh16
namespace Go.Proofs.Ytkglaklkbodjkaa
open Go.RowKit Wh
set_option linter.unusedVariables false

/-- The items but one. -/
def but (id : Int) (L : List Wh.Item) : List Wh.Item := L.filter fun x => decide (x.1 ≠ id)
theorem erase_filter {l : List Int} {k : Nat} {id : Int} (hk : l[k]? = some id) (hnd : l.Nodup) : l.eraseIdx k = l.filter fun x => decide (x ≠ id) := by
  induction l generalizing k with
  | nil => simp at hk
  | cons y l ih =>
    rw [List.nodup_cons] at hnd
    cases k with
    | zero =>
      simp only [List.getElem?_cons_zero, Option.some.injEq] at hk
      subst hk
      rw [List.eraseIdx_cons_zero, List.filter_cons, if_neg (by simp)]
      symm
      rw [List.filter_eq_self]
      intro x hx
      simp only [decide_eq_true_eq]
      exact fun e => hnd.1 (e ▸ hx)
    | succ k =>
      rw [List.getElem?_cons_succ] at hk
      have hne : y ≠ id := fun e => hnd.1 (e ▸ List.mem_of_getElem? hk)
      rw [List.eraseIdx_cons_succ, List.filter_cons, if_pos (by simp [hne]), ih hk hnd.2]
theorem slotBy_but (f : Nat → Nat) (L : List Wh.Item) (id : Int) (j d : Nat) : slotBy f (but id L) j d = (slotBy f L j d).filter fun x => decide (x ≠ id) := by
  unfold slotBy but
  rw [List.filter_map, List.filter_filter, List.filter_filter]
  congr 1
  apply List.filter_congr
  intro x _
  show (decide (f x.2 = j ∧ dig x.2 j = d) && decide (x.1 ≠ id)) = (decide (x.1 ≠ id) && decide (f x.2 = j ∧ dig x.2 j = d))
  rw [Bool.and_comm]
theorem slotBy_nodup {L : List Wh.Item} (h : Fresh L) (f : Nat → Nat) (j d : Nat) : (slotBy f L j d).Nodup := List.Nodup.sublist (List.Sublist.map _ List.filter_sublist) h
theorem slotBy_has {L : List Wh.Item} {id : Int} {t : Nat} (hm : (id, t) ∈ L) (f : Nat → Nat) : id ∈ slotBy f L (f t) (dig t (f t)) := by
  unfold slotBy
  exact List.mem_map.2 ⟨(id, t), List.mem_filter.2 ⟨hm, by simp⟩, rfl⟩
theorem slotBy_not {L : List Wh.Item} (h : Fresh L) {id : Int} {t : Nat} (hm : (id, t) ∈ L) (f : Nat → Nat) {j d : Nat} (hn : ¬ (j = f t ∧ d = dig t (f t))) : id ∉ slotBy f L j d := by
  intro hx
  unfold slotBy at hx
  obtain ⟨y, hy, he⟩ := List.mem_map.1 hx
  obtain ⟨hy1, hy2⟩ := List.mem_filter.1 hy
  have h1 := find_of h hy1
  have h2 := find_of h hm
  rw [he] at h1
  rw [h1] at h2
  cases h2
  have h3 := of_decide_eq_true hy2
  exact hn ⟨h3.1.symm, by rw [← h3.2, h3.1]⟩
theorem filter_not {l : List Int} {id : Int} (h : id ∉ l) : (l.filter fun x => decide (x ≠ id)) = l := by
  rw [List.filter_eq_self]
  intro x hx
  simp only [decide_eq_true_eq]
  exact fun e => h (e ▸ hx)
theorem mapOf_but {L : List Wh.Item} (h : Fresh L) (id : Int) : (fun x => if x = id then none else mapOf L x) = mapOf (but id L) := by
  funext x
  by_cases e : x = id
  · subst e
    rw [if_pos rfl, mapOf_none]
    intro hm
    obtain ⟨y, hy, he⟩ := List.mem_map.1 hm
    have := of_decide_eq_true (List.mem_filter.1 hy).2
    exact this he
  · rw [if_neg e]
    by_cases hx : x ∈ L.map (·.1)
    · obtain ⟨y, hy, rfl⟩ := List.mem_map.1 hx
      have h2 : y ∈ but id L := List.mem_filter.2 ⟨hy, decide_eq_true e⟩
      have h3 : Fresh (but id L) := h.filter _
      rw [mapOf_mem h hy, mapOf_mem h3 h2]
    · rw [mapOf_none hx, mapOf_none]
      intro hm
      obtain ⟨y, hy, rfl⟩ := List.mem_map.1 hm
      exact hx (List.mem_map.2 ⟨y, (List.mem_filter.1 hy).1, rfl⟩)
theorem but_len {L : List Wh.Item} (h : Fresh L) {id : Int} {t : Nat} (hm : (id, t) ∈ L) : (but id L).length = L.length - 1 := by
  induction L with
  | nil => cases hm
  | cons y l ih =>
    unfold Fresh at h
    rw [List.map_cons, List.nodup_cons] at h
    unfold but
    rw [List.filter_cons]
    by_cases e : y.1 = id
    · rw [if_neg (by simp [e])]
      have : l.filter (fun x => decide (x.1 ≠ id)) = l := by
        rw [List.filter_eq_self]
        intro x hx
        simp only [decide_eq_true_eq]
        exact fun q => h.1 (List.mem_map.2 ⟨x, hx, by rw [q, e]⟩)
      rw [this]; simp
    · rw [if_pos (by simp [e])]
      rcases List.mem_cons.1 hm with rfl | hm
      · exact absurd rfl e
      · have := ih h.2 hm
        unfold but at this
        rw [List.length_cons, this, List.length_cons]
        have : 0 < l.length := List.length_pos_of_mem hm
        omega
theorem rw_but {now : Nat} {L : List Wh.Item} (hr : Rw now L) (id : Int) : Rw now (but id L) :=
  ⟨fun x hx => hr.due x (List.mem_filter.1 hx).1, hr.fresh.filter _, fun x hx => hr.isI x (List.mem_filter.1 hx).1, Nat.le_trans (List.length_filter_le _ _) hr.len, hr.now⟩
/-- Once an item is struck from its slot, the slots are those of the others. -/
theorem drop_slots {now : Nat} {L : List Wh.Item} (hr : Rw now L) {id : Int} {t : Nat} (hm : (id, t) ∈ L) {sl : Nat → List Int} (hs : Slots (lev now) L (two sl)) {k : Nat} (hk : (sl (16 * lev now t + dig t (lev now t)))[k]? = some id) :
    Slots (lev now) (but id L) (two (at1 sl (16 * lev now t + dig t (lev now t)) ((sl (16 * lev now t + dig t (lev now t))).eraseIdx k))) := by
  intro j d hj hd
  have hlv := lev_le now t
  have hdg := dig_lt t (lev now t)
  have h0 := hs (lev now t) (dig t (lev now t)) (by omega) hdg
  unfold two at h0
  rw [slotBy_but]
  by_cases e : j = lev now t ∧ d = dig t (lev now t)
  · obtain ⟨rfl, rfl⟩ := e
    unfold two
    rw [at1_same]
    have hnd := slotBy_nodup hr.fresh (lev now) (lev now t) (dig t (lev now t))
    rw [← h0] at hnd ⊢
    exact erase_filter hk hnd
  · have h1 := hs j d hj hd
    unfold two at h1 ⊢
    rw [at1_other _ _ (by omega), h1, filter_not (slotBy_not hr.fresh hm (lev now) e)]
/-- What a row that a call owns lies in. -/
theorem Ir.blk {w : World} {B : Nat} {v : Value} {l : List Int} (h : Ir w B v l) (hl : l ≠ []) : ∃ g cap cur, v = .slice (some ⟨g, 0, none⟩) l.length cap ∧ B ≤ g ∧ Blk w g 3 cur ∧ l.length ≤ cap ∧ cap ≤ maxLen ∧ cur.size = cap ∧ ∀ (j : Nat) (x : Int), l[j]? = some x → cur[j]? = some (Value.int .i64 x) := by
  rcases h.2 with ⟨h2, h3⟩ | ⟨g, cap, cur, h1, h2, h3, h4, h5, h6, h7⟩
  · exact absurd (List.length_eq_zero_iff.1 h3) hl
  · refine ⟨g, cap, cur, h1, h2, h3, h4, h5, by rw [h6, Nat.mul_one], fun j x hj => ?_⟩
    have e : (cur.toList.take (l.length * 1))[j]? = (l.map (Value.int .i64))[j]? := by rw [h7]
    have hjl : j < l.length := (List.getElem?_eq_some_iff.1 hj).1
    rw [List.getElem?_take, if_pos (by omega), List.getElem?_map, hj] at e
    simpa using e
theorem Ir.of_blk {w : World} {B g cap : Nat} {cur : Array Value} {l : List Int} (hB : B ≤ g) (hb : Blk w g 3 cur) (h1 : l.length ≤ cap) (h2 : cap ≤ maxLen) (h3 : cur.size = cap) (hc : ∀ (j : Nat) (x : Int), l[j]? = some x → cur[j]? = some (Value.int .i64 x)) : Ir w B (.slice (some ⟨g, 0, none⟩) l.length cap) l := by
  refine ⟨by simp, .inr ⟨g, cap, cur, rfl, hB, hb, h1, h2, by rw [h3, Nat.mul_one], ?_⟩⟩
  apply List.ext_getElem?
  intro j
  by_cases hj : j < l.length
  · rw [List.getElem?_take, if_pos (by omega), List.getElem?_map]
    have := hc j l[j] (List.getElem?_eq_getElem hj)
    rw [List.getElem?_eq_getElem hj]
    simpa using this
  · rw [List.getElem?_eq_none (by rw [List.length_take]; simp; omega), List.getElem?_eq_none (by simp; omega)]
end Go.Proofs.Ytkglaklkbodjkaa
