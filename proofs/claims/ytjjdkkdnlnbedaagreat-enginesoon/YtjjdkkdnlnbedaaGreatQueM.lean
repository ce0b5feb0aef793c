/- The plain numbers behind ktime: what each call comes to, over Int. No program in sight. -/
namespace Go.Proofs.YtjjdkkdnlnbedaaGreat.Kt

/-- The time that a number counts as. -/
def clampZ (t : Int) : Int := if 4611686018427387903 < t then 4611686018427387903 else if t < -4611686018427387903 then -4611686018427387903 else t
/-- A sum. -/
def addZ (a b : Int) : Int := if 4611686018427387903 ≤ a then 4611686018427387903 else clampZ (clampZ a + clampZ b)
/-- A difference. -/
def subZ (a b : Int) : Int := if 4611686018427387903 ≤ a then 4611686018427387903 else clampZ (clampZ a - clampZ b)
/-- A product. -/
def mulZ (a n : Int) : Int := clampZ (clampZ a * n)
/-- What never comes. -/
def neverB (a : Int) : Bool := decide (4611686018427387903 ≤ a)
/-- How long it is. -/
def untilZ (now t : Int) : Int := if subZ t now < 0 then 0 else subZ t now
/-- Kept within two. -/
def betweenZ (low t high : Int) : Int := min (max (clampZ t) (clampZ low)) (clampZ high)
/-- The least. -/
def firstZ (l : List Int) : Int := l.foldl (fun m t => min m (clampZ t)) 4611686018427387903

theorem clampZ_bd (t : Int) : -4611686018427387903 ≤ clampZ t ∧ clampZ t ≤ 4611686018427387903 := by
  unfold clampZ; split <;> (try split) <;> omega
theorem clampZ_id {t : Int} (h : -4611686018427387903 ≤ t) (h' : t ≤ 4611686018427387903) : clampZ t = t := by
  unfold clampZ; split <;> (try split) <;> omega
theorem addZ_bd (a b : Int) : -4611686018427387903 ≤ addZ a b ∧ addZ a b ≤ 4611686018427387903 := by
  unfold addZ; split
  · omega
  · exact clampZ_bd _
theorem subZ_bd (a b : Int) : -4611686018427387903 ≤ subZ a b ∧ subZ a b ≤ 4611686018427387903 := by
  unfold subZ; split
  · omega
  · exact clampZ_bd _
theorem mulZ_bd (a b : Int) : -4611686018427387903 ≤ mulZ a b ∧ mulZ a b ≤ 4611686018427387903 := clampZ_bd _
theorem addZ_neg (a b : Int) : addZ a (-(clampZ b)) = subZ a b := by
  have := clampZ_bd b
  unfold addZ subZ
  rw [clampZ_id (t := -(clampZ b)) (by omega) (by omega)]
  rfl
theorem clampZ_mono {a b : Int} (h : a ≤ b) : clampZ a ≤ clampZ b := by
  unfold clampZ
  repeat' split
  all_goals omega
theorem addZ_mono {a b : Int} (c : Int) (h : a ≤ b) : addZ a c ≤ addZ b c := by
  have h1 := clampZ_mono h
  by_cases hb : 4611686018427387903 ≤ b
  · have : addZ b c = 4611686018427387903 := by unfold addZ; rw [if_pos hb]
    have := addZ_bd a c; omega
  · unfold addZ
    rw [if_neg hb, if_neg (by omega)]
    exact clampZ_mono (by omega)
theorem subZ_mono {a b : Int} (c : Int) (h : a ≤ b) : subZ a c ≤ subZ b c := by
  have h1 := clampZ_mono h
  by_cases hb : 4611686018427387903 ≤ b
  · have : subZ b c = 4611686018427387903 := by unfold subZ; rw [if_pos hb]
    have := subZ_bd a c; omega
  · unfold subZ
    rw [if_neg hb, if_neg (by omega)]
    exact clampZ_mono (by omega)
theorem addZ_comm {a b : Int} (ha : ¬ 4611686018427387903 ≤ a) (hb : ¬ 4611686018427387903 ≤ b) : addZ a b = addZ b a := by
  unfold addZ
  rw [if_neg ha, if_neg hb, Int.add_comm]
theorem addZ_zero (a : Int) : addZ a 0 = clampZ a := by
  unfold addZ clampZ
  repeat' split
  all_goals omega
theorem subZ_zero (a : Int) : subZ a 0 = clampZ a := by
  unfold subZ clampZ
  repeat' split
  all_goals omega
theorem clampZ_idem (a : Int) : clampZ (clampZ a) = clampZ a := by
  have := clampZ_bd a
  exact clampZ_id this.1 this.2
theorem mulZ_one (a : Int) : mulZ a 1 = clampZ a := by
  unfold mulZ; rw [Int.mul_one]; exact clampZ_idem a
theorem mulZ_zero (a : Int) : mulZ a 0 = 0 := by
  unfold mulZ; rw [Int.mul_zero]; rfl
/-- The product as Go reckons it: of the sizes, stopped, and signed. -/
theorem clampZ_neg (x : Int) : clampZ (-x) = -(clampZ x) := by
  unfold clampZ
  repeat' split
  all_goals omega
theorem clampZ_natAbs (x : Int) (m : Nat) (hx : x.natAbs = m) : clampZ x = if x < 0 then -(if 4611686018427387903 < (m : Int) then 4611686018427387903 else (m : Int)) else (if 4611686018427387903 < (m : Int) then 4611686018427387903 else (m : Int)) := by
  unfold clampZ
  repeat' split
  all_goals omega
theorem mulZ_signed (a n : Int) (m : Nat) (hm : (clampZ a).natAbs * n.natAbs = m) :
    mulZ a n = if (clampZ a < 0 ∧ ¬ n < 0) ∨ (¬ clampZ a < 0 ∧ n < 0) then -(if 4611686018427387903 < (m : Int) then 4611686018427387903 else (m : Int)) else (if 4611686018427387903 < (m : Int) then 4611686018427387903 else (m : Int)) := by
  unfold mulZ
  generalize clampZ a = c at *
  have hx : (c * n).natAbs = m := by rw [Int.natAbs_mul]; exact hm
  rw [clampZ_natAbs (c * n) m hx]
  by_cases h1 : c < 0 <;> by_cases h2 : n < 0
  · have : 0 < c * n := Int.mul_pos_of_neg_of_neg h1 h2
    rw [if_neg (c := c * n < 0) (by omega), if_neg (c := _ ∨ _) (by omega)]
  · have : c * n ≤ 0 := Int.mul_nonpos_of_nonpos_of_nonneg (by omega) (by omega)
    rw [if_pos (c := _ ∨ _) (by omega)]
    split
    · rfl
    · have : m = 0 := by omega
      subst this; rfl
  · have : c * n ≤ 0 := Int.mul_nonpos_of_nonneg_of_nonpos (by omega) (by omega)
    rw [if_pos (c := _ ∨ _) (by omega)]
    split
    · rfl
    · have : m = 0 := by omega
      subst this; rfl
  · have : 0 ≤ c * n := Int.mul_nonneg (by omega) (by omega)
    rw [if_neg (c := c * n < 0) (by omega), if_neg (c := _ ∨ _) (by omega)]
end Go.Proofs.YtjjdkkdnlnbedaaGreat.Kt


/- A row of timers, in the order of their Soft times. -/
namespace Go.Proofs.YtjjdkkdnlnbedaaGreat.Qu
open Kt

/-- A timer. -/
structure Tmr where
  id : Int
  clock : Int
  soft : Int
  hard : Int
  lazy : Bool
/-- A timer at a place of the tree. -/
structure QI where
  n : Nat
  tu : Int
  tm : Tmr
/-- A timer comes behind all whose Soft time isn't later. -/
def insT (t : Tmr) : List Tmr → List Tmr
  | [] => [t]
  | y :: r => if clampZ y.soft ≤ clampZ t.soft then y :: insT t r else t :: y :: r
def SrtT (R : List Tmr) : Prop := R.Pairwise fun x y => clampZ x.soft ≤ clampZ y.soft
theorem insT_split (t : Tmr) : ∀ (A B : List Tmr), (∀ y ∈ A, clampZ y.soft ≤ clampZ t.soft) → (∀ y ∈ B, clampZ t.soft < clampZ y.soft) → insT t (A ++ B) = A ++ t :: B
  | [], [], _, _ => rfl
  | [], y :: r, _, hB => by
    have := hB y (by simp)
    show (if _ then _ else _) = _
    rw [if_neg (by omega)]
    rfl
  | y :: r, B, hA, hB => by
    show (if _ then _ else _) = _
    rw [if_pos (hA y (by simp))]
    show y :: insT t (r ++ B) = _
    rw [insT_split t r B (fun z hz => hA z (by simp [hz])) hB]
    rfl
theorem insT_length (t : Tmr) : ∀ R : List Tmr, (insT t R).length = R.length + 1
  | [] => rfl
  | y :: r => by
    show (if _ then _ else _ : List Tmr).length = _
    split
    · show (insT t r).length + 1 = _
      rw [insT_length t r]; rfl
    · rfl
theorem mem_insT {t y : Tmr} : ∀ {R : List Tmr}, y ∈ insT t R ↔ y = t ∨ y ∈ R
  | [] => by simp [insT]
  | z :: r => by
    show y ∈ (if _ then _ else _ : List Tmr) ↔ _
    split
    · rw [List.mem_cons, mem_insT, List.mem_cons]
      constructor
      · rintro (h | h | h)
        · exact .inr (.inl h)
        · exact .inl h
        · exact .inr (.inr h)
      · rintro (h | h | h)
        · exact .inr (.inl h)
        · exact .inl h
        · exact .inr (.inr h)
    · rw [List.mem_cons]
theorem insT_srt {t : Tmr} : ∀ {R : List Tmr}, SrtT R → SrtT (insT t R)
  | [], _ => by simp [insT, SrtT]
  | z :: r, h => by
    obtain ⟨h1, h2⟩ := List.pairwise_cons.1 h
    show SrtT (if _ then _ else _)
    split
    · rename_i hz
      refine List.pairwise_cons.2 ⟨fun y hy => ?_, insT_srt h2⟩
      rcases mem_insT.1 hy with rfl | hy
      · exact hz
      · exact h1 y hy
    · rename_i hz
      refine List.pairwise_cons.2 ⟨fun y hy => ?_, h⟩
      rcases List.mem_cons.1 hy with rfl | hy
      · omega
      · have := h1 y hy; omega
/-- Is an ID there? -/
def idsT (R : List Tmr) : List Int := R.map (·.id)
theorem idsT_ins (t : Tmr) (R : List Tmr) (x : Int) : x ∈ idsT (insT t R) ↔ x = t.id ∨ x ∈ idsT R := by
  unfold idsT
  rw [List.mem_map, List.mem_map]
  constructor
  · rintro ⟨y, hy, rfl⟩
    rcases mem_insT.1 hy with rfl | hy
    · exact .inl rfl
    · exact .inr ⟨y, hy, rfl⟩
  · rintro (rfl | ⟨y, hy, rfl⟩)
    · exact ⟨t, mem_insT.2 (.inl rfl), rfl⟩
    · exact ⟨y, mem_insT.2 (.inr hy), rfl⟩
/-- What the maps tell of a row. -/
def hF (L : List QI) : Int → Option (Nat × Int) := fun id => (L.find? fun y => decide (y.tm.id = id)).map fun y => (y.n, y.tu)
def tF (L : List QI) : Nat × Int → Option Tmr := fun p => (L.find? fun y => decide (y.n = p.1 ∧ y.tu = p.2)).map (·.tm)
def QNd (L : List QI) : Prop := (L.map (·.tm.id)).Nodup ∧ (L.map (·.n)).Nodup
theorem nodup_find {α : Type} {L : List QI} {g : QI → α} (h : (L.map g).Nodup) {y : QI} (hy : y ∈ L) {p : QI → Bool} (hp : ∀ z, p z = true → g z = g y) (hpy : p y = true) : L.find? p = some y := by
  induction L with
  | nil => cases hy
  | cons z l ih =>
    rw [List.map_cons, List.nodup_cons] at h
    rw [List.find?_cons]
    rcases List.mem_cons.1 hy with rfl | hy
    · rw [hpy]
    · cases hz : p z with
      | true => exact absurd (List.mem_map.2 ⟨y, hy, (hp z hz).symm⟩) h.1
      | false => exact ih h.2 hy
theorem hF_mem {L : List QI} (h : QNd L) {y : QI} (hy : y ∈ L) : hF L y.tm.id = some (y.n, y.tu) := by
  unfold hF
  rw [nodup_find h.1 hy (fun z hz => of_decide_eq_true hz) (by simp)]; rfl
theorem hF_none {L : List QI} {id : Int} (h : id ∉ L.map (·.tm.id)) : hF L id = none := by
  unfold hF
  rw [List.find?_eq_none.2]
  · rfl
  · intro y hy
    simp only [decide_eq_true_eq]
    exact fun e => h (List.mem_map.2 ⟨y, hy, e⟩)
theorem tF_mem {L : List QI} (h : QNd L) {y : QI} (hy : y ∈ L) : tF L (y.n, y.tu) = some y.tm := by
  unfold tF
  rw [nodup_find h.2 hy (fun z hz => (of_decide_eq_true hz).1) (by simp)]; rfl
theorem tF_none {L : List QI} {p : Nat × Int} (h : ∀ y ∈ L, ¬ (y.n = p.1 ∧ y.tu = p.2)) : tF L p = none := by
  unfold tF
  rw [List.find?_eq_none.2]
  · rfl
  · intro y hy
    simp only [decide_eq_true_eq]
    exact h y hy
theorem hF_cons_split {A B : List QI} {x : QI} (h : QNd (A ++ x :: B)) : (fun i => if i = x.tm.id then some (x.n, x.tu) else hF (A ++ B) i) = hF (A ++ x :: B) := by
  funext i
  by_cases e : i = x.tm.id
  · subst e
    rw [if_pos rfl, hF_mem h (by simp)]
  · rw [if_neg e]
    unfold hF
    have e1 : (decide (x.tm.id = i)) = false := decide_eq_false (fun q => e q.symm)
    rw [List.find?_append, List.find?_append, List.find?_cons, e1]
theorem hF_del_split {A B : List QI} {x : QI} (h : QNd (A ++ x :: B)) : (fun i => if i = x.tm.id then none else hF (A ++ x :: B) i) = hF (A ++ B) := by
  funext i
  by_cases e : i = x.tm.id
  · subst e
    rw [if_pos rfl, hF_none]
    intro hm
    have h1 := h.1
    rw [List.map_append, List.map_cons] at h1
    rw [List.map_append, List.mem_append] at hm
    obtain ⟨h2, h3, h4⟩ := List.nodup_append.1 h1
    rcases hm with hm | hm
    · exact h4 _ hm _ (by simp) rfl
    · exact (List.nodup_cons.1 h3).1 hm
  · rw [if_neg e]
    unfold hF
    have e1 : (decide (x.tm.id = i)) = false := decide_eq_false (fun q => e q.symm)
    rw [List.find?_append, List.find?_append, List.find?_cons, e1]
theorem tF_cons_split {A B : List QI} {x : QI} (h : QNd (A ++ x :: B)) : (fun i => if i = (x.n, x.tu) then some x.tm else tF (A ++ B) i) = tF (A ++ x :: B) := by
  funext i
  by_cases e : i = (x.n, x.tu)
  · subst e
    rw [if_pos rfl, tF_mem h (by simp)]
  · rw [if_neg e]
    unfold tF
    have e1 : (decide (x.n = i.1 ∧ x.tu = i.2)) = false := decide_eq_false (fun q => e (by rw [q.1, q.2]))
    rw [List.find?_append, List.find?_append, List.find?_cons, e1]
theorem tF_del_split {A B : List QI} {x : QI} (h : QNd (A ++ x :: B)) : (fun i => if i = (x.n, x.tu) then none else tF (A ++ x :: B) i) = tF (A ++ B) := by
  funext i
  by_cases e : i = (x.n, x.tu)
  · subst e
    rw [if_pos rfl, tF_none]
    rintro y hy ⟨hq, -⟩
    have h1 := h.2
    rw [List.map_append, List.map_cons] at h1
    obtain ⟨h2, h3, h4⟩ := List.nodup_append.1 h1
    rcases List.mem_append.1 hy with hm | hm
    · exact h4 _ (List.mem_map.2 ⟨y, hm, rfl⟩) _ (by simp) hq
    · exact (List.nodup_cons.1 h3).1 (List.mem_map.2 ⟨y, hm, hq⟩)
  · rw [if_neg e]
    unfold tF
    have e1 : (decide (x.n = i.1 ∧ x.tu = i.2)) = false := decide_eq_false (fun q => e (by rw [q.1, q.2]))
    rw [List.find?_append, List.find?_append, List.find?_cons, e1]
theorem QNd.del {A B : List QI} {x : QI} (h : QNd (A ++ x :: B)) : QNd (A ++ B) := by
  have hs : (A ++ B).Sublist (A ++ x :: B) := (List.Sublist.refl A).append (List.sublist_cons_self x B)
  exact ⟨h.1.sublist (hs.map _), h.2.sublist (hs.map _)⟩
theorem QNd.put {A B : List QI} {x : QI} (h : QNd (A ++ B)) (h1 : x.tm.id ∉ (A ++ B).map (·.tm.id)) (h2 : x.n ∉ (A ++ B).map (·.n)) : QNd (A ++ x :: B) := by
  have key : ∀ {α : Type} (g : QI → α), ((A ++ B).map g).Nodup → g x ∉ (A ++ B).map g → ((A ++ x :: B).map g).Nodup := by
    intro α g hn hx
    have : ((A ++ x :: B).map g).Perm (g x :: (A ++ B).map g) := by
      rw [← List.map_cons]
      exact List.Perm.map g List.perm_middle
    exact this.symm.nodup (List.nodup_cons.2 ⟨hx, hn⟩)
  exact ⟨key _ h.1 h1, key _ h.2 h2⟩
end Go.Proofs.YtjjdkkdnlnbedaaGreat.Qu

