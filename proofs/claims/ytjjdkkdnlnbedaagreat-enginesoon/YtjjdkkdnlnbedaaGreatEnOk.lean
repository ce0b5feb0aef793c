/- What holds of an engine behind each step. -/
import Derived.Test.YtjjdkkdnlnbedaaGreatEn7
namespace Go.Proofs.YtjjdkkdnlnbedaaGreat
open Kt Qu
set_option linter.unusedVariables false

structure EnOk (e : En) : Prop where
  n1 : 1 ≤ e.n
  n16 : e.n ≤ 16
  M : e.M < 2 ^ e.n
  M0 : e.M ≠ 0
  on : ∀ i, i < e.n → (e.cp i).on = e.M.testBit i
  off : ∀ i, i < e.n → e.M.testBit i = false → e.cp i = cp0
  nd : ∀ i, i < e.n → (idsT (e.cp i).L).Nodup
  dj : ∀ i j x, i < e.n → j < e.n → i ≠ j → x ∈ idsT (e.cp i).L → x ∉ idsT (e.cp j).L
  len : e.len ≤ 64
  tm : ∀ i t, i < e.n → t ∈ (e.cp i).L → 0 ≤ t.clock ∧ t.clock ≤ 2 ∧ t.soft ≤ t.hard ∧ okT t
theorem bit_lt {M n i : Nat} (h : M < 2 ^ n) (hb : M.testBit i = true) : i < n := by
  by_cases q : i < n
  · exact q
  · rw [Nat.testBit_lt_two_pow (Nat.lt_of_lt_of_le h (Nat.pow_le_pow_right (by omega) (by omega)))] at hb; cases hb
theorem EnOk.M16 {e : En} (h : EnOk e) : e.M < 65536 := Nat.lt_of_lt_of_le h.M (by have : 2 ^ e.n ≤ 2 ^ 16 := Nat.pow_le_pow_right (by omega) h.n16; simpa using this)
theorem EnOk.bit {e : En} (h : EnOk e) {i : Nat} (hb : e.M.testBit i = true) : i < e.n := bit_lt h.M hb
theorem EnOk.onl {e : En} (h : EnOk e) : ∀ i, i < 16 → e.M.testBit i = true → i < e.n ∧ (e.cp i).on = true := fun i _ hb => ⟨h.bit hb, by rw [h.on i (h.bit hb)]; exact hb⟩
/-- Timers that come one by one. -/
def foldA (L ls : List Tmr) : List Tmr := ls.foldl (fun l t => insA t l) L
theorem foldA_snoc (L ls : List Tmr) (t : Tmr) : foldA L (ls ++ [t]) = insA t (foldA L ls) := by unfold foldA; rw [List.foldl_append]; rfl
theorem insA_perm (t : Tmr) : ∀ l : List Tmr, (insA t l).Perm (t :: l)
  | [] => List.Perm.refl _
  | y :: r => by
    show (if _ then _ else _ : List Tmr).Perm _
    split
    · exact ((insA_perm t r).cons y).trans (List.Perm.swap t y r)
    · exact List.Perm.refl _
theorem foldA_perm (L : List Tmr) : ∀ ls : List Tmr, (foldA L ls).Perm (ls ++ L)
  | [] => List.Perm.refl _
  | t :: r => by
    show (foldA (insA t L) r).Perm _
    refine (foldA_perm (insA t L) r).trans ?_
    refine ((insA_perm t L).append_left r).trans ?_
    exact List.perm_middle
theorem foldA_len (L ls : List Tmr) : (foldA L ls).length = ls.length + L.length := by rw [(foldA_perm L ls).length_eq, List.length_append]
theorem foldA_ids {L ls : List Tmr} {x : Int} : x ∈ idsT (foldA L ls) ↔ x ∈ idsT ls ∨ x ∈ idsT L := by
  unfold idsT
  rw [((foldA_perm L ls).map (·.id)).mem_iff, List.map_append, List.mem_append]
theorem lenTo_two (e : En) : ∀ {n i j : Nat}, i < n → j < n → i ≠ j → (e.cp i).L.length + (e.cp j).L.length ≤ lenTo e n
  | 0, i, j, h, _, _ => by omega
  | n + 1, i, j, hi, hj, hne => by
    show _ ≤ lenTo e n + _
    by_cases q : i = n
    · subst q
      have := lenTo_le e (n := i) (i := j) (by omega); omega
    · by_cases p : j = n
      · subst p
        have := lenTo_le e (n := j) (i := i) (by omega); omega
      · have := lenTo_two e (n := n) (i := i) (j := j) (by omega) (by omega) hne; omega
theorem nextL_mem {l : List Nat} {c : Int} (h : (Mk.nextL l c).2 = true) : ∃ k ∈ l, (Mk.nextL l c).1 = (k : Int) := by
  unfold Mk.nextL at h ⊢
  cases hf : l.find? (Mk.gtB c) with
  | some k => exact ⟨k, List.mem_of_find?_eq_some hf, rfl⟩
  | none =>
    rw [hf] at h
    cases l with
    | nil => cases h
    | cons k r => exact ⟨k, by simp, rfl⟩
theorem nextL_none {l : List Nat} {c : Int} (h : (Mk.nextL l c).2 = false) : l = [] := by
  unfold Mk.nextL at h
  cases hf : l.find? (Mk.gtB c) with
  | some k => rw [hf] at h; cases h
  | none =>
    rw [hf] at h
    cases l with
    | nil => rfl
    | cons k r => cases h
/-- Midway: j timers have gone from c to t. -/
def En.mid (e : En) (c t j : Nat) : En := { e with cp := fun i => if i = c then { e.cp c with L := (e.cp c).L.drop j } else if i = t then { e.cp t with L := foldA (e.cp t).L ((e.cp c).L.take j) } else e.cp i }
theorem mid_zero (e : En) (c t : Nat) : e.mid c t 0 = e := by
  unfold En.mid
  congr 1
  funext i
  by_cases h : i = c
  · subst h; simp
  · by_cases k : i = t
    · subst k; simp [h, foldA]
    · simp [h, k]
theorem mid_c (e : En) (c t j : Nat) : (e.mid c t j).cp c = { e.cp c with L := (e.cp c).L.drop j } := if_pos rfl
theorem mid_t (e : En) {c t : Nat} (j : Nat) (h : t ≠ c) : (e.mid c t j).cp t = { e.cp t with L := foldA (e.cp t).L ((e.cp c).L.take j) } := by
  show (if t = c then _ else _) = _
  rw [if_neg h, if_pos rfl]
theorem drop_head {L : List Tmr} (hn : (idsT L).Nodup) {j : Nat} {y : Tmr} (h : L[j]? = some y) : L.drop j = y :: L.drop (j + 1) ∧ (L.drop j).filter (fun t => decide (t.id ≠ y.id)) = L.drop (j + 1) ∧ L.take (j + 1) = L.take j ++ [y] ∧ y.id ∉ idsT (L.take j) := by
  obtain ⟨hj, he⟩ := List.getElem?_eq_some_iff.1 h
  have e1 : L.drop j = y :: L.drop (j + 1) := by rw [List.drop_eq_getElem_cons hj, he]
  have e2 : L = L.take j ++ y :: L.drop (j + 1) := by rw [← e1, List.take_append_drop]
  have hn2 := hn
  rw [e2] at hn2
  unfold idsT at hn2
  rw [List.map_append, List.map_cons] at hn2
  obtain ⟨n1, n2, n3⟩ := List.nodup_append.1 hn2
  refine ⟨e1, ?_, by rw [List.take_add_one, h]; rfl, fun hm => ?_⟩
  · rw [e1, List.filter_cons, if_neg (by simp), List.filter_eq_self.2]
    intro z hz
    simp only [ne_eq, decide_eq_true_eq]
    intro q
    exact (List.nodup_cons.1 n2).1 (List.mem_map.2 ⟨z, hz, q⟩)
  · obtain ⟨z, hz, q⟩ := List.mem_map.1 hm
    exact n3 z.id (List.mem_map.2 ⟨z, hz, rfl⟩) y.id (by simp) q
theorem mid_step (e : En) {c t j : Nat} (h : t ≠ c) (hn : (idsT (e.cp c).L).Nodup) {y : Tmr} (hy : (e.cp c).L[j]? = some y) :
    ((e.mid c t j).set c { (e.mid c t j).cp c with L := ((e.mid c t j).cp c).L.filter fun t => decide (t.id ≠ y.id) }).set t { (e.mid c t j).cp t with L := insA y ((e.mid c t j).cp t).L } = e.mid c t (j + 1) := by
  obtain ⟨d1, d2, d3, -⟩ := drop_head hn hy
  rw [mid_c, mid_t e j h]
  simp only
  rw [d2]
  unfold En.mid En.set
  congr 1
  funext i
  simp only
  by_cases p : i = t
  · subst p
    rw [if_pos rfl, if_neg h, if_pos rfl, d3, foldA_snoc]
  · rw [if_neg p]
    by_cases q : i = c
    · subst q; rw [if_pos rfl, if_pos rfl]
    · rw [if_neg q, if_neg q, if_neg p, if_neg q, if_neg p]
/-- The end: c has nothing left, and is off. -/
def En.gone (e : En) (c t M : Nat) : En := { e with M := M, cp := fun i => if i = c then cp0 else if i = t then { e.cp t with L := foldA (e.cp t).L (e.cp c).L } else e.cp i }
theorem mid_end (e : En) {c t N : Nat} (h : t ≠ c) (hN : (e.cp c).L.length = N) (M : Nat) (E7 : En) (h7 : E7 = (e.mid c t N).set c { (e.mid c t N).cp c with on := false, arm := none, la := false }) (E8 : En) (h8 : E8 = E7.set c { E7.cp c with ra := false })
    (E9 : En) (h9 : E9 = E8.set c { E8.cp c with ki := false }) : ({ E9 with M := M } : En) = e.gone c t M := by
  subst h9 h8 h7
  rw [En.set_at, En.set_set, En.set_at, En.set_set, mid_c]
  unfold En.gone En.set En.mid
  simp only
  congr 1
  funext i
  by_cases q : i = c
  · subst q
    simp only [if_pos]
    unfold cp0
    rw [List.drop_of_length_le (Nat.le_of_eq hN)]
  · simp only [if_neg q]
    by_cases p : i = t
    · subst p
      simp only [if_pos]
      rw [List.take_of_length_le (Nat.le_of_eq hN)]
    · simp only [if_neg p]
end Go.Proofs.YtjjdkkdnlnbedaaGreat
