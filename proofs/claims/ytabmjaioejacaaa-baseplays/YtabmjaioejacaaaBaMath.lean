/- Six rows of timers: what a base is, in plain words. -/
import Derived.Test.YtabmjaioejacaaaQueM
namespace Go.Proofs.Ytabmjaioejacaaa.Qu
open Kt

/-- Rows by their numbers: clock by clock, those that aren't Lazy first. -/
abbrev Rows6 := Nat → List Tmr
def ixT (t : Tmr) : Nat := 2 * t.clock.toNat + (if t.lazy then 1 else 0)
/-- The rows up to one. -/
def upT (R : Rows6) : Nat → List Tmr
  | 0 => []
  | i + 1 => upT R i ++ R i
def allT (R : Rows6) : List Tmr := upT R 6
/-- One row is another one. -/
def setT (R : Rows6) (i : Nat) (l : List Tmr) : Rows6 := fun j => if j = i then l else R j
theorem setT_same (R : Rows6) (i : Nat) (l : List Tmr) : setT R i l i = l := if_pos rfl
theorem setT_ne (R : Rows6) {i j : Nat} (l : List Tmr) (h : j ≠ i) : setT R i l j = R j := if_neg h
theorem upT_congr {R S : Rows6} : ∀ {i : Nat}, (∀ j, j < i → R j = S j) → upT R i = upT S i
  | 0, _ => rfl
  | i + 1, h => by
    show upT R i ++ R i = upT S i ++ S i
    rw [upT_congr (fun j hj => h j (by omega)), h i (by omega)]
theorem mem_upT {R : Rows6} {t : Tmr} : ∀ {i : Nat}, t ∈ upT R i ↔ ∃ j, j < i ∧ t ∈ R j
  | 0 => by simp [upT]
  | i + 1 => by
    show t ∈ upT R i ++ R i ↔ _
    rw [List.mem_append, mem_upT]
    constructor
    · rintro (⟨j, hj, h⟩ | h)
      · exact ⟨j, by omega, h⟩
      · exact ⟨i, by omega, h⟩
    · rintro ⟨j, hj, h⟩
      by_cases e : j = i
      · subst e; exact .inr h
      · exact .inl ⟨j, by omega, h⟩
theorem mem_allT {R : Rows6} {t : Tmr} : t ∈ allT R ↔ ∃ j, j < 6 ∧ t ∈ R j := mem_upT
theorem mem_ids_upT {R : Rows6} {id : Int} {i : Nat} : id ∈ idsT (upT R i) ↔ ∃ j, j < i ∧ id ∈ idsT (R j) := by
  unfold idsT
  simp only [List.mem_map, mem_upT]
  constructor
  · rintro ⟨t, ⟨j, hj, ht⟩, e⟩; exact ⟨j, hj, t, ht, e⟩
  · rintro ⟨j, hj, t, ht, e⟩; exact ⟨t, ⟨j, hj, ht⟩, e⟩
/-- What lies ahead of a row, and behind it. -/
def downT (R : Rows6) (i : Nat) : List Tmr := (List.range' (i + 1) (5 - i)).flatMap R
theorem upT_flat (R : Rows6) : ∀ i, upT R i = (List.range' 0 i).flatMap R
  | 0 => rfl
  | i + 1 => by
    show upT R i ++ R i = _
    rw [upT_flat R i, List.range'_1_concat, List.flatMap_append]
    simp
theorem allT_split (R : Rows6) {i : Nat} (hi : i < 6) : allT R = upT R i ++ (R i ++ downT R i) := by
  unfold allT downT
  rw [upT_flat, upT_flat]
  have : List.range' 0 6 = List.range' 0 i ++ (i :: List.range' (i + 1) (5 - i)) := by
    rcases (show i = 0 ∨ i = 1 ∨ i = 2 ∨ i = 3 ∨ i = 4 ∨ i = 5 by omega) with rfl | rfl | rfl | rfl | rfl | rfl <;> rfl
  rw [this, List.flatMap_append, List.flatMap_cons]
theorem downT_congr {R S : Rows6} {i : Nat} (h : ∀ j, i < j → j < 6 → R j = S j) : downT R i = downT S i := by
  unfold downT
  have : ∀ l : List Nat, (∀ j ∈ l, R j = S j) → l.flatMap R = l.flatMap S := by
    intro l hl
    induction l with
    | nil => rfl
    | cons x l ih => rw [List.flatMap_cons, List.flatMap_cons, hl x (by simp), ih (fun j hj => hl j (by simp [hj]))]
  apply this
  intro j hj
  rw [List.mem_range'_1] at hj
  exact h j (by omega) (by omega)
theorem allT_set (R : Rows6) {i : Nat} (hi : i < 6) (l : List Tmr) : allT (setT R i l) = upT R i ++ (l ++ downT R i) := by
  rw [allT_split _ hi, setT_same, upT_congr (fun j hj => setT_ne R l (by omega)), downT_congr (fun j h1 _ => setT_ne R l (by omega))]
theorem mem_downT {R : Rows6} {i : Nat} {t : Tmr} (h : t ∈ downT R i) : ∃ j, i < j ∧ j < 6 ∧ t ∈ R j := by
  unfold downT at h
  obtain ⟨j, hj, ht⟩ := List.mem_flatMap.1 h
  rw [List.mem_range'_1] at hj
  exact ⟨j, by omega, by omega, ht⟩
/-- The rows are as they should be: each timer in its row, each row in order, no ID twice. -/
structure Rok (R : Rows6) : Prop where
  ix : ∀ i t, i < 6 → t ∈ R i → ixT t = i ∧ 0 ≤ t.clock ∧ t.clock ≤ 2
  srt : ∀ i, i < 6 → SrtT (R i)
  nd : (idsT (allT R)).Nodup
theorem Rok.empty : Rok (fun _ => []) := ⟨(fun i t _ h => by cases h), (fun i _ => by simp [SrtT]), (by simp [allT, upT, idsT])⟩
theorem Rok.one {R : Rows6} (h : Rok R) {i j : Nat} {id : Int} (hi : i < 6) (hj : j < 6) (h1 : id ∈ idsT (R i)) (h2 : id ∈ idsT (R j)) : i = j := by
  have key : ∀ a b, a < b → b < 6 → id ∈ idsT (R a) → id ∈ idsT (R b) → False := by
    intro a b hab hb ha hb'
    have := h.nd
    rw [allT_split R hb] at this
    unfold idsT at this
    rw [List.map_append, List.map_append] at this
    have h3 := (List.nodup_append.1 this).2.2 id (mem_ids_upT.2 ⟨a, hab, ha⟩) id (by simp only [List.mem_append]; exact .inl hb')
    exact h3 rfl
  by_cases e : i = j
  · exact e
  · rcases Nat.lt_or_gt_of_ne e with q | q
    · exact (key i j q hj h1 h2).elim
    · exact (key j i q hi h2 h1).elim
theorem idsT_app (a b : List Tmr) : idsT (a ++ b) = idsT a ++ idsT b := by unfold idsT; rw [List.map_append]
/-- A timer comes into its row. -/
def putT (R : Rows6) (t : Tmr) : Rows6 := setT R (ixT t) (insT t (R (ixT t)))
theorem insT_perm (t : Tmr) : ∀ l : List Tmr, (insT t l).Perm (t :: l)
  | [] => List.Perm.refl _
  | y :: r => by
    show (if _ then _ else _ : List Tmr).Perm _
    split
    · exact ((insT_perm t r).cons y).trans (List.Perm.swap t y r)
    · exact List.Perm.refl _
theorem ixT_lt {t : Tmr} (h0 : 0 ≤ t.clock) (h2 : t.clock ≤ 2) : ixT t < 6 := by
  unfold ixT
  split <;> omega
theorem allT_put_perm (R : Rows6) {t : Tmr} (h : ixT t < 6) : (allT (putT R t)).Perm (t :: allT R) := by
  unfold putT
  rw [allT_set R h, allT_split R h]
  refine (((insT_perm t _).append_right _).append_left _).trans ?_
  exact List.perm_middle
theorem Rok.put {R : Rows6} (h : Rok R) {t : Tmr} (h0 : 0 ≤ t.clock) (h2 : t.clock ≤ 2) (hn : t.id ∉ idsT (allT R)) : Rok (putT R t) := by
  refine ⟨fun i y hi hy => ?_, fun i hi => ?_, ?_⟩
  · unfold putT setT at hy
    split at hy
    · rename_i e
      rcases mem_insT.1 hy with rfl | hy
      · exact ⟨e.symm, h0, h2⟩
      · rw [← e] at hy; exact h.ix i y hi hy
    · exact h.ix i y hi hy
  · unfold putT setT
    split
    · exact insT_srt (h.srt _ (ixT_lt h0 h2))
    · exact h.srt i hi
  · have := (allT_put_perm R (ixT_lt h0 h2)).map (·.id)
    exact this.symm.nodup (List.nodup_cons.2 ⟨hn, h.nd⟩)
theorem Rok.sub {R S : Rows6} (h : Rok R) (hs : ∀ i, i < 6 → (S i).Sublist (R i)) : Rok S := by
  refine ⟨fun i y hi hy => h.ix i y hi ((hs i hi).subset hy), fun i hi => (h.srt i hi).sublist (hs i hi), ?_⟩
  have key : ∀ i, i ≤ 6 → (upT S i).Sublist (upT R i) := by
    intro i
    induction i with
    | zero => intro _; exact List.Sublist.refl _
    | succ i ih => intro hi; exact (ih (by omega)).append (hs i (by omega))
  exact h.nd.sublist ((key 6 (Nat.le_refl _)).map _)
/-- A timer goes. -/
theorem Rok.drop {R : Rows6} (h : Rok R) {i : Nat} {A B : List Tmr} {t : Tmr} (hi : i < 6) (e : R i = A ++ t :: B) : Rok (setT R i (A ++ B)) := by
  refine h.sub fun j hj => ?_
  unfold setT
  split
  · rename_i q
    subst q
    rw [e]
    exact (List.Sublist.refl A).append (List.sublist_cons_self t B)
  · exact List.Sublist.refl _
/-- Which row has an ID. -/
theorem Rok.find {R : Rows6} (h : Rok R) {id : Int} (hm : id ∈ idsT (allT R)) : ∃ i A B t, i < 6 ∧ R i = A ++ t :: B ∧ t.id = id ∧ (∀ j, j < 6 → j ≠ i → id ∉ idsT (R j)) ∧ id ∉ idsT (A ++ B) := by
  obtain ⟨i, hi, hx⟩ := mem_ids_upT.1 hm
  obtain ⟨t, ht, rfl⟩ := List.mem_map.1 hx
  obtain ⟨A, B, e⟩ := List.append_of_mem ht
  refine ⟨i, A, B, t, hi, e, rfl, fun j hj hne hq => hne (h.one hj hi hq (List.mem_map.2 ⟨t, ht, rfl⟩)), fun hq => ?_⟩
  have h1 := h.nd
  rw [allT_split R hi, e] at h1
  unfold idsT at h1 hq
  simp only [List.map_append, List.map_cons] at h1 hq
  have h2 := (List.nodup_append.1 h1).2.1
  have h3 := (List.nodup_append.1 h2).1
  have h4 := List.nodup_append.1 h3
  rcases List.mem_append.1 hq with q | q
  · exact h4.2.2 _ q _ (by simp) rfl
  · exact (List.nodup_cons.1 h4.2.1).1 q
end Go.Proofs.Ytabmjaioejacaaa.Qu
