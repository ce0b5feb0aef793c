/- What waits on an engine, counted; what Settle does next. -/
import Derived.Test.YtjjdkkdnlnbedaaGreatEn10
namespace Go.Proofs.YtjjdkkdnlnbedaaGreat
open Go.RowKit Kt Qu
set_option linter.unusedVariables false

def flg (q : Nat) (c : Cp) : Bool := if q = 0 then c.ki else if q = 1 then c.la else c.ra
def En.hd (q : Nat) (e : En) (i : Int) : List Frd × Int × En := if q = 0 then e.doKick i else if q = 1 then e.doIrq i else e.doSoft i
theorem find_idx {p : Nat → Bool} : ∀ {l : List Nat} {j i : Nat}, l[j]? = some i → p i = true → (∀ j' i', j' < j → l[j']? = some i' → p i' = false) → l.find? p = some i
  | [], j, i, h, _, _ => by simp at h
  | x :: r, 0, i, h, hp, _ => by
    simp only [List.getElem?_cons_zero, Option.some.injEq] at h
    subst h
    rw [List.find?_cons, hp]
  | x :: r, j + 1, i, h, hp, hb => by
    have hx := hb 0 x (by omega) (by simp)
    rw [List.find?_cons, hx]
    exact find_idx (j := j) (by simpa using h) hp fun j' i' hj hi => hb (j' + 1) i' (by omega) (by simpa using hi)
theorem find_none {p : Nat → Bool} {l : List Nat} (h : ∀ i ∈ l, p i = false) : l.find? p = none := by
  rw [List.find?_eq_none]
  intro x hx
  rw [h x hx]; decide
theorem on_mem {e : En} {i : Nat} (h : i ∈ Mk.listOf e.M) : e.on (i : Int) = true := by
  have := (Mk.mem_list e.M i).1 h
  unfold En.on Mk.hasB
  simp only [Bool.and_eq_true, decide_eq_true_eq, Int.toNat_natCast]
  exact ⟨by omega, this.2⟩
theorem hd_yes {e : En} {q i : Nat} (hq : q ≤ 2) (hi : i ∈ Mk.listOf e.M) (hf : flg q (e.cp i) = true) : (e.hd q i).2.1 = 0 ∧ ((e.hd q i).1, (e.hd q i).2.2) = (if q = 0 then ([], e.kick i) else if q = 1 then (e.fired i false, e.irq i) else (e.fired i true, e.soft i)) := by
  have ho := on_mem hi
  unfold En.hd flg at *
  rcases (show q = 0 ∨ q = 1 ∨ q = 2 by omega) with rfl | rfl | rfl
  · simp only [if_pos] at *
    unfold En.doKick
    rw [if_neg (by rw [ho]; decide), if_neg (by rw [Int.toNat_natCast, hf]; decide), Int.toNat_natCast]
    exact ⟨rfl, rfl⟩
  · simp only [show ¬ (1 : Nat) = 0 by decide, if_pos, if_false] at *
    unfold En.doIrq
    rw [if_neg (by rw [ho]; decide), if_neg (by rw [Int.toNat_natCast, hf]; decide), Int.toNat_natCast]
    exact ⟨rfl, rfl⟩
  · simp only [show ¬ (2 : Nat) = 0 by decide, show ¬ (2 : Nat) = 1 by decide, if_false] at *
    unfold En.doSoft
    rw [if_neg (by rw [ho]; decide), if_neg (by rw [Int.toNat_natCast, hf]; decide), Int.toNat_natCast]
    exact ⟨rfl, rfl⟩
theorem hd_no {e : En} {q i : Nat} (hq : q ≤ 2) (hi : i ∈ Mk.listOf e.M) (hf : flg q (e.cp i) = false) : e.hd q i = ([], 8, e) := by
  have ho := on_mem hi
  unfold En.hd flg at *
  rcases (show q = 0 ∨ q = 1 ∨ q = 2 by omega) with rfl | rfl | rfl
  · simp only [if_pos] at *
    unfold En.doKick
    rw [if_neg (by rw [ho]; decide), if_pos (by rw [Int.toNat_natCast, hf])]
  · simp only [show ¬ (1 : Nat) = 0 by decide, if_pos, if_false] at *
    unfold En.doIrq
    rw [if_neg (by rw [ho]; decide), if_pos (by rw [Int.toNat_natCast, hf])]
  · simp only [show ¬ (2 : Nat) = 0 by decide, show ¬ (2 : Nat) = 1 by decide, if_false] at *
    unfold En.doSoft
    rw [if_neg (by rw [ho]; decide), if_pos (by rw [Int.toNat_natCast, hf])]
theorem next1_some {e : En} {q j i : Nat} (hq : q ≤ 2) (hj : (Mk.listOf e.M)[j]? = some i) (hf : flg q (e.cp i) = true) (h0 : ∀ q', q' < q → ∀ k ∈ Mk.listOf e.M, flg q' (e.cp k) = false)
    (h1 : ∀ j' i', j' < j → (Mk.listOf e.M)[j']? = some i' → flg q (e.cp i') = false) : e.next1 = some ((e.hd q i).1, (e.hd q i).2.2) := by
  rw [(hd_yes hq (List.mem_of_getElem? hj) hf).2]
  unfold En.next1
  rcases (show q = 0 ∨ q = 1 ∨ q = 2 by omega) with rfl | rfl | rfl
  · rw [find_idx (p := fun i => (e.cp i).ki) hj hf h1]; rfl
  · rw [find_none (p := fun i => (e.cp i).ki) (h0 0 (by omega)), find_idx (p := fun i => (e.cp i).la) hj hf h1]; rfl
  · rw [find_none (p := fun i => (e.cp i).ki) (h0 0 (by omega)), find_none (p := fun i => (e.cp i).la) (h0 1 (by omega)), find_idx (p := fun i => (e.cp i).ra) hj hf h1]; rfl
theorem next1_none {e : En} (h : ∀ q', q' < 3 → ∀ k ∈ Mk.listOf e.M, flg q' (e.cp k) = false) : e.next1 = none := by
  unfold En.next1
  rw [find_none (p := fun i => (e.cp i).ki) (h 0 (by omega)), find_none (p := fun i => (e.cp i).la) (h 1 (by omega)), find_none (p := fun i => (e.cp i).ra) (h 2 (by omega))]
/-- How much waits. -/
def val (c : Cp) : Nat := (if c.ki then 1 else 0) + ((if c.la then 2 else 0) + (if c.ra then 1 else 0))
def muE (e : En) : Nat → Nat
  | 0 => 0
  | n + 1 => muE e n + val (e.cp n)
theorem val_le (c : Cp) : val c ≤ 4 := by unfold val; split <;> split <;> split <;> omega
theorem muE_le (e : En) : ∀ n, muE e n ≤ 4 * n
  | 0 => Nat.le_refl _
  | n + 1 => by
    have := muE_le e n
    have := val_le (e.cp n)
    show muE e n + _ ≤ _
    omega
theorem muE_out (e : En) (c : Cp) {i : Nat} : ∀ {n : Nat}, n ≤ i → muE (e.set i c) n = muE e n
  | 0, _ => rfl
  | n + 1, h => by
    show muE (e.set i c) n + val ((e.set i c).cp n) = muE e n + _
    rw [muE_out e c (n := n) (by omega), En.set_ne e c (by omega)]
theorem muE_set (e : En) (c : Cp) {i : Nat} : ∀ {n : Nat}, i < n → muE (e.set i c) n + val (e.cp i) = muE e n + val c
  | 0, h => by omega
  | n + 1, h => by
    show muE (e.set i c) n + val ((e.set i c).cp n) + _ = muE e n + val (e.cp n) + _
    by_cases q : i = n
    · subst q
      rw [muE_out e c (Nat.le_refl i), En.set_at]; omega
    · have := muE_set e c (n := n) (i := i) (by omega)
      rw [En.set_ne e c (fun z => q z.symm)]; omega
theorem look_flags (e : En) (c : Cp) : (e.look c).ki = c.ki ∧ (e.look c).la = c.la ∧ (e.look c).ra = c.ra ∧ (e.look c).on = c.on ∧ (e.look c).L = c.L := by unfold En.look; split <;> exact ⟨rfl, rfl, rfl, rfl, rfl⟩
theorem muE_hd {e : En} {q i : Nat} (hq : q ≤ 2) (hi : i ∈ Mk.listOf e.M) (hn : i < e.n) (hf : flg q (e.cp i) = true) : (e.hd q i).2.2.n = e.n ∧ muE (e.hd q i).2.2 e.n < muE e e.n := by
  have h2 := congrArg Prod.snd (hd_yes hq hi hf).2
  simp only at h2
  rw [h2]
  unfold flg at hf
  rcases (show q = 0 ∨ q = 1 ∨ q = 2 by omega) with rfl | rfl | rfl
  · simp only [if_pos] at hf ⊢
    refine ⟨rfl, ?_⟩
    obtain ⟨x, hx⟩ : ∃ x : Cp, x = { e.cp i with ki := false } := ⟨_, rfl⟩
    have := muE_set e (e.look x) hn
    obtain ⟨a, b, c, -⟩ := look_flags e x
    have e0 : e.kick i = e.set i (e.look x) := by rw [hx]; rfl
    have e1 : x.ki = false := by rw [hx]
    have e2 : x.la = (e.cp i).la := by rw [hx]
    have e3 : x.ra = (e.cp i).ra := by rw [hx]
    unfold val at this
    rw [a, b, c, hf, e1, e2, e3] at this
    rw [e0]
    simp only [if_true, Bool.false_eq_true, if_false] at this
    omega
  · simp only [show ¬ (1 : Nat) = 0 by decide, if_false, if_pos] at hf ⊢
    refine ⟨rfl, ?_⟩
    have := muE_set e (e.look (e.irq1 i)) hn
    obtain ⟨a, b, c, -⟩ := look_flags e (e.irq1 i)
    unfold val at this
    rw [a, b, c, hf] at this
    unfold En.irq
    have e1 : (e.irq1 i).ki = (e.cp i).ki := rfl
    have e2 : (e.irq1 i).la = false := rfl
    rw [e1, e2] at this
    have e3 : (if (e.irq1 i).ra = true then 1 else 0) ≤ 1 + (if (e.cp i).ra = true then 1 else 0) := by split <;> split <;> omega
    simp only [if_true, Bool.false_eq_true, if_false] at this
    omega
  · simp only [show ¬ (2 : Nat) = 0 by decide, show ¬ (2 : Nat) = 1 by decide, if_false] at hf ⊢
    refine ⟨rfl, ?_⟩
    obtain ⟨x, hx⟩ : ∃ x : Cp, x = { e.cp i with ra := false, L := e.rest i true } := ⟨_, rfl⟩
    have := muE_set e (e.look x) hn
    obtain ⟨a, b, c, -⟩ := look_flags e x
    have e0 : e.soft i = e.set i (e.look x) := by rw [hx]; rfl
    have e1 : x.ki = (e.cp i).ki := by rw [hx]
    have e2 : x.la = (e.cp i).la := by rw [hx]
    have e3 : x.ra = false := by rw [hx]
    unfold val at this
    rw [a, b, c, hf, e1, e2, e3] at this
    rw [e0]
    simp only [if_true, Bool.false_eq_true, if_false] at this
    omega
/-- Settle, midway. -/
def Reach (e0 : En) (acc : List Frd) (e : En) : Prop := ∃ k, muE e e.n < k ∧ settleF 65 e0 = (acc ++ (settleF k e).1, (settleF k e).2)
theorem Reach.refl (e : En) (hn : e.n ≤ 16) : Reach e [] e := ⟨65, by have := muE_le e e.n; omega, rfl⟩
theorem Reach.step {e0 e : En} {acc : List Frd} {q j i : Nat} (h : Reach e0 acc e) (hq : q ≤ 2) (hj : (Mk.listOf e.M)[j]? = some i) (hn : i < e.n) (hf : flg q (e.cp i) = true) (h0 : ∀ q', q' < q → ∀ k ∈ Mk.listOf e.M, flg q' (e.cp k) = false)
    (h1 : ∀ j' i', j' < j → (Mk.listOf e.M)[j']? = some i' → flg q (e.cp i') = false) : Reach e0 (acc ++ (e.hd q i).1) (e.hd q i).2.2 := by
  obtain ⟨k, hk, hs⟩ := h
  obtain ⟨m1, m2⟩ := muE_hd hq (List.mem_of_getElem? hj) hn hf
  have hx := next1_some hq hj hf h0 h1
  cases k with
  | zero => omega
  | succ k =>
    refine ⟨k, by rw [m1]; omega, ?_⟩
    rw [hs]
    show (acc ++ (settleF (k + 1) e).1, (settleF (k + 1) e).2) = _
    have e1 : settleF (k + 1) e = ((e.hd q i).1 ++ (settleF k (e.hd q i).2.2).1, (settleF k (e.hd q i).2.2).2) := by
      show (match e.next1 with | none => _ | some (l, e1) => _) = _
      rw [hx]
    rw [e1, List.append_assoc]
theorem Reach.end {e0 e : En} {acc : List Frd} (h : Reach e0 acc e) (h0 : ∀ q', q' < 3 → ∀ k ∈ Mk.listOf e.M, flg q' (e.cp k) = false) : e0.settle = (acc, e) := by
  obtain ⟨k, hk, hs⟩ := h
  unfold En.settle
  rw [hs]
  cases k with
  | zero => omega
  | succ k =>
    have e1 : settleF (k + 1) e = ([], e) := by
      show (match e.next1 with | none => _ | some (l, e1) => _) = _
      rw [next1_none h0]
    rw [e1, List.append_nil]
/-- What waits, as memory tells. -/
noncomputable def cb (w : World) (a : Addr) (n : Nat) : Nat := by
  classical exact if w.cell? a = some (.bool true) then n else 0
theorem cb_eq {w : World} {a : Addr} {b : Bool} (n : Nat) (h : w.cell? a = some (.bool b)) : cb w a n = if b then n else 0 := by
  unfold cb
  rw [h]
  cases b <;> simp
noncomputable def muW (r : Nat) (d : Nat → Nat) (w : World) : Nat → Nat
  | 0 => 0
  | n + 1 => muW r d w n + (cb w ⟨r, n * 4 + 3, none⟩ 1 + (cb w ⟨d n, 5, none⟩ 2 + cb w ⟨r, n * 4 + 2, none⟩ 1))
theorem muW_eq {w : World} {l : Loc} {e : En} (h : Es w l e) : ∀ n, n ≤ e.n → muW l.r l.d w n = muE e n
  | 0, _ => rfl
  | n + 1, hn => by
    obtain ⟨-, -, h2, h3⟩ := h.row n (by omega)
    show muW l.r l.d w n + _ = muE e n + val (e.cp n)
    rw [muW_eq h n (by omega), cb_eq 1 h3, cb_eq 1 h2, cb_eq 2 (h.dv n (by omega)).c5]
    rfl
end Go.Proofs.YtjjdkkdnlnbedaaGreat
