/- What the reference's reader stands on. -/
import Derived.Test.YtcpehfjpdegmbaaDoorDu10
namespace Go.Proofs.YtcpehfjpdegmbaaDoor
open Go.RowKit Kt Dg Du

def stR (l : List UInt8) (i : Nat) : Sx := (units.take i).foldl stepR (l, 0, false)
theorem stR_succ (l : List UInt8) (i : Nat) (h : i < 7) : stR l (i + 1) = stepR (stR l i) (unitAt i) := by
  unfold stR
  rw [take_unit i h, List.foldl_append]; rfl
theorem stR_zero (l : List UInt8) : stR l 0 = (l, 0, false) := rfl
theorem sum_finR (l : List UInt8) : sumZ l = fin (stR l 7) := by
  rw [sum_same]
  unfold sumR stR
  rw [show units.take 7 = units from List.take_of_length_le (by decide)]
theorem stR_ok (l : List UInt8) (hl : l.length ≤ 1000000) : ∀ i, i ≤ 7 → (stR l i).1.length ≤ 1000000 ∧ 0 ≤ (stR l i).2.1 ∧ (stR l i).2.1 ≤ 4611686018427387903
  | 0, _ => ⟨hl, by show (0 : Int) ≤ 0; omega, by show (0 : Int) ≤ 4611686018427387903; omega⟩
  | i + 1, h => by
    have ih := stR_ok l hl i (by omega)
    rw [stR_succ l i (by omega)]
    obtain ⟨k1, k2, _, _⟩ := units_ok _ (unit_mem i (by omega))
    unfold stepR
    split
    · refine ⟨?_, cap_bd (unitAt i).1 (stR l i).2.1 (numN (dg (stR l i).1) : Int) k1 ih.2.1 (by omega)⟩
      show ((be (stR l i).1).drop _).length ≤ _
      have := be_le (stR l i).1
      rw [List.length_drop]; omega
    · exact ih
theorem dg_at (x : List UInt8) (p : Nat) (h : p < (dg x).length) (h' : p < x.length) : isD x[p] = true := by
  have e := split_be x
  have hm : x[p] ∈ dg x := by
    have : x[p] = (dg x)[p] := by
      have h2 : (dg x ++ be x)[p]? = x[p]? := by rw [e]
      rw [List.getElem?_append_left h, List.getElem?_eq_getElem h, List.getElem?_eq_getElem h'] at h2
      exact (Option.some.inj h2).symm
    rw [this]; exact List.getElem_mem h
  exact dg_isD x _ hm
theorem dg_stop (x : List UInt8) (h : (dg x).length < x.length) : isD x[(dg x).length] = false := by
  have e : x.drop (dg x).length = be x := drop_tw isD x
  rw [List.drop_eq_getElem_cons h] at e
  exact dw_head (p := isD) x _ _ e.symm
theorem num_take (x : List UInt8) (p acc : Nat) (h : p < x.length) (hd : isD x[p] = true) (ha : numL (x.take p) 0 = some acc) : numL (x.take (p + 1)) 0 = some (acc * 10 + (x[p].toNat - 48)) := by
  have hc : 48 ≤ x[p].toNat ∧ x[p].toNat ≤ 57 := by
    unfold isD at hd
    rwa [Bool.and_eq_true, decide_eq_true_eq, decide_eq_true_eq] at hd
  rw [List.take_succ_eq_append_getElem h, numL_snoc, ha, Option.bind_some, if_pos hc]
theorem num_dgT (x : List UInt8) (acc : Nat) (h : numL (x.take (dg x).length) 0 = some acc) : numN (dg x) = acc := by
  rw [show x.take (dg x).length = dg x from take_tw isD x] at h
  unfold numN; rw [h]; rfl
/-- Whether a part is taken, by what the reader asks. -/
theorem takes_by (x : List UInt8) (t : Int) (f : Bool) (u : Un) : takesR (x, t, f) u = (decide ((dg x).length ≠ 0) && decide ((dg x).length ≤ 18) && u.2.isPrefixOf (be x) && !(u.2 == [109] && [109, 115].isPrefixOf (be x)) && !(x.head? == some 48 && decide (1 < (dg x).length))) := by
  unfold takesR
  by_cases h : (dg x).length = 0
  · have h' := List.length_eq_zero_iff.1 h
    simp only [h']
    simp
  · have e1 : (dg x).isEmpty = false := by
      rw [List.isEmpty_eq_false_iff]; intro e; rw [e] at h; exact h rfl
    have e2 : (dg x).head? = x.head? := by
      conv => rhs; rw [← split_be x]
      cases hd : dg x with
      | nil => rw [hd] at h; exact absurd rfl h
      | cons a r => rfl
    simp only [e1, e2, show decide ((dg x).length ≠ 0) = true from decide_eq_true h, Bool.not_false]
theorem step_no (x : List UInt8) (t : Int) (f : Bool) (u : Un) (h : takesR (x, t, f) u = false) : stepR (x, t, f) u = (x, t, f) := by
  unfold stepR; rw [h, if_neg (by decide)]
theorem step_yes (x : List UInt8) (t : Int) (f : Bool) (u : Un) (h : takesR (x, t, f) u = true) : stepR (x, t, f) u = ((be x).drop u.2.length, capZ u.1 t (numN (dg x) : Int), true) := by
  unfold stepR; rw [if_pos h]
theorem cut_drop (l : List UInt8) (k : Nat) : (bs l).extract k l.length = bs (l.drop k) := by
  rw [bs_cut, List.take_length]
theorem isD_bd {c : UInt8} : isD c = true ↔ 48 ≤ c.toNat ∧ c.toNat ≤ 57 := by
  unfold isD; rw [Bool.and_eq_true, decide_eq_true_eq, decide_eq_true_eq]
theorem dg_in (x : List UInt8) (p : Nat) (h : p < (dg x).length) (h' : p < (bs x).size) : 48 ≤ ((bs x)[p]'h').toNat ∧ ((bs x)[p]'h').toNat ≤ 57 :=
  isD_bd.1 (dg_at x p h (by rw [← bs_size]; exact h'))
theorem dg_out (x : List UInt8) (p : Nat) (h : p = (dg x).length) (h' : p < (bs x).size) : ((bs x)[p]'h').toNat < 48 ∨ 57 < ((bs x)[p]'h').toNat := by
  have hx : (dg x).length < x.length := by rw [← h, ← bs_size]; exact h'
  have hs := dg_stop x hx
  have e : isD ((bs x)[p]'h') = false := by subst h; exact hs
  have hn : ¬ (48 ≤ ((bs x)[p]'h').toNat ∧ ((bs x)[p]'h').toNat ≤ 57) := fun hb => by rw [isD_bd.2 hb] at e; cases e
  omega
theorem num_in (x : List UInt8) (p acc : Nat) (h : p < (dg x).length) (h' : p < (bs x).size) (ha : numL (x.take p) 0 = some acc) : numL (x.take (p + 1)) 0 = some (acc * 10 + (((bs x)[p]'h').toNat - 48)) :=
  num_take x p acc (by rw [← bs_size]; exact h') (dg_at x p h (by rw [← bs_size]; exact h')) ha
theorem num_out (x : List UInt8) (p acc : Nat) (h : p = (dg x).length) (ha : numL (x.take p) 0 = some acc) : numN (dg x) = acc :=
  num_dgT x acc (by rw [← h]; exact ha)
theorem head_in (x : List UInt8) (h' : 0 < (bs x).size) : (x.head? == some 48) = ((((bs x)[0]'h').toNat : Int) == 48) := by
  cases x with
  | nil => simp [bs_size] at h'
  | cons a r =>
    show (some a == some 48) = ((a.toNat : Int) == 48)
    rw [Bool.eq_iff_iff, beq_iff_eq, beq_iff_eq, Option.some.injEq, ← UInt8.toNat_inj, show (48 : UInt8).toNat = 48 from rfl]
    omega
end Go.Proofs.YtcpehfjpdegmbaaDoor
