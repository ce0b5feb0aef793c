import Derived.Test.YtkglaklkbodjkaaWh9
namespace Go.Proofs.Ytkglaklkbodjkaa
open Go.RowKit Wh

section
variable {B H Mb now n : Nat} {sv : Nat → Value} {sl : Nat → List Int} {L : List Wh.Item}
/-- What a row of items must be. -/
structure Rw (now : Nat) (L : List Wh.Item) : Prop where
  due : Due now L
  fresh : Fresh L
  isI : ∀ x ∈ L, isI x.1
  len : L.length ≤ 1024
  now : now ≤ 1000000000000
theorem slot_mem {F : Nat → Nat} (hs : Slots F L (two sl)) (j : Nat) (hj : j < 64) : ∀ x ∈ sl j, ∃ y ∈ L, y.1 = x := by
  intro x hx
  have h := hs (j / 16) (j % 16) (by omega) (by omega)
  unfold two at h
  rw [show 16 * (j / 16) + j % 16 = j by omega] at h
  rw [h] at hx
  unfold slotBy at hx
  obtain ⟨y, hy, rfl⟩ := List.mem_map.1 hx
  exact ⟨y, (List.mem_filter.1 hy).1, rfl⟩
theorem slot_len {F : Nat → Nat} (hs : Slots F L (two sl)) (j : Nat) (hj : j < 64) : (sl j).length ≤ L.length := by
  have h := hs (j / 16) (j % 16) (by omega) (by omega)
  unfold two at h
  rw [show 16 * (j / 16) + j % 16 = j by omega] at h
  rw [h]
  unfold slotBy
  rw [List.length_map]
  exact List.length_filter_le _ _
theorem rw_ok {F : Nat → Nat} (hr : Rw now L) (hs : Slots F L (two sl)) : Ok (mapOf L) (dueOf L) 5000 sl := by
  intro j hj
  refine ⟨by have := slot_len hs j hj; have := hr.len; omega, fun x hx => ?_⟩
  obtain ⟨y, hy, rfl⟩ := slot_mem hs j hj x hx
  rw [mapOf_mem hr.fresh hy, dueOf_mem hr.fresh hy]
  have h1 := (hr.due y hy).2
  have h2 := hr.now
  exact ⟨hr.isI y hy, rfl, by omega⟩
theorem tick_deal (w : World) (h : Whl w B H Mb (now + 1) n (mapOf L) L.length sv sl) (hB : B ≤ w.heap.size) (hr : Rw now L) (hs : Slots (lev now) L (two sl)) :
    Calls Try.prog 55 #[.pointer (some ⟨H, 0, none⟩)] w fun e w' => e = .returned (.tuple #[]) ∧ ∃ sv' sl', Whl w' B H Mb (now + 1) n (mapOf L) L.length sv' sl' ∧ Slots (lev (now + 1)) L (two sl') ∧ Fr w w' (Foot H Mb sv) (Foot H Mb sv') := by
  refine (deal_any w h hB (by have := hr.now; omega) (dueOf L) (rw_ok hr hs)).mono ?_
  rintro e w' ⟨rfl, sv', h1, h2⟩
  exact ⟨rfl, sv', _, h1, dealt_slots (dueOf L) now L sl hr.due (fun x hx => dueOf_mem hr.fresh hx) hs, h2⟩
/-- The items that a tick lets go, and those that stay. -/
def firedOf (t : Nat) (L : List Wh.Item) : List Int := (L.filter fun x => decide (x.2 = t)).map (·.1)
def restOf (t : Nat) (L : List Wh.Item) : List Wh.Item := L.filter fun x => decide (x.2 ≠ t)
theorem rest_len (t : Nat) (L : List Wh.Item) : L.length - (firedOf t L).length = (restOf t L).length := by
  unfold firedOf restOf
  rw [List.length_map]
  have : (L.filter fun x => decide (x.2 = t)).length + (L.filter fun x => decide (x.2 ≠ t)).length = L.length := by
    induction L with
    | nil => rfl
    | cons y l ih =>
      by_cases e : y.2 = t
      · simp [e] at ih ⊢; omega
      · simp [e] at ih ⊢; omega
  omega
theorem rest_rw (hr : Rw now L) (h1 : now + 1 ≤ 1000000000000) : Rw (now + 1) (restOf (now + 1) L) := by
  refine ⟨fun x hx => ?_, hr.fresh.filter _, fun x hx => hr.isI x (List.mem_filter.1 hx).1, Nat.le_trans (List.length_filter_le _ _) hr.len, h1⟩
  obtain ⟨hx1, hx2⟩ := List.mem_filter.1 hx
  have h2 := hr.due x hx1
  have h3 : x.2 ≠ now + 1 := of_decide_eq_true hx2
  omega
theorem tick_fire (w : World) (h : Whl w B H Mb (now + 1) n (mapOf L) L.length sv sl) (hr : Rw now L) (hs : Slots (lev (now + 1)) L (two sl)) :
    Calls Try.prog 56 #[.pointer (some ⟨H, 0, none⟩)] w fun e w' => ∃ v, e = .returned v ∧ Ir w' B v (firedOf (now + 1) L) ∧ ∃ sv' sl', Whl w' B H Mb (now + 1) n (mapOf (restOf (now + 1) L)) (restOf (now + 1) L).length sv' sl' ∧
      Slots (lev (now + 1)) (restOf (now + 1) L) (two sl') ∧ Fr w w' (Foot H Mb sv) (Foot H Mb sv') ∧ ∀ g, v.ownBlock = some g → ¬ Foot H Mb sv' g := by
  have hd := dig_lt (now + 1) 0
  have hids : sl (dig (now + 1) 0) = firedOf (now + 1) L := by
    have h1 := hs 0 (dig (now + 1) 0) (by omega) hd
    rw [fire_slot] at h1
    unfold two at h1
    rw [show 16 * 0 + dig (now + 1) 0 = dig (now + 1) 0 by omega] at h1
    exact h1
  refine (fire_any w h (by have := hr.now; omega) _ rfl hd _ hids ?_ ?_ ?_).mono ?_
  · unfold firedOf
    rw [List.length_map]
    exact Nat.le_trans (List.length_filter_le _ _) (Nat.le_trans hr.len (by omega))
  · intro x hx
    obtain ⟨y, hy, rfl⟩ := List.mem_map.1 hx
    have hy1 := (List.mem_filter.1 hy).1
    exact ⟨hr.isI y hy1, by rw [mapOf_mem hr.fresh hy1]; rfl⟩
  · exact hr.fresh.filter _
  · rintro e w' ⟨rfl, k1, k2, k3, k4⟩
    refine ⟨_, rfl, k3, _, at1 sl (dig (now + 1) 0) [], ?_, ?_, k2, k4⟩
    · rw [show gone (mapOf L) (firedOf (now + 1) L) = mapOf (restOf (now + 1) L) from gone_mapOf hr.fresh (now + 1), rest_len] at k1
      exact k1
    · refine Slots.congr' (fire_rest (now + 1) L (two sl) hs) fun j d hj hdd => ?_
      unfold two taken at1
      by_cases e : j = 0 ∧ d = dig (now + 1) 0
      · rw [if_pos e, if_pos (by omega)]
      · rw [if_neg e, if_neg (by omega)]
end
end Go.Proofs.Ytkglaklkbodjkaa
