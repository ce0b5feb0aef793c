/- A base's Start. -/
import Derived.Test.YtabmjaioejacaaaBa3
namespace Go.Proofs.Ytabmjaioejacaaa
open Go.RowKit Kt Qu
set_option linter.unusedVariables false

section
variable {w w' : World} {b n : Nat} {P : Nat → Option Qa} {R : Rows6}
/-- A queue is there, of the timer's row: made, if it wasn't. -/
def setP (P : Nat → Option Qa) (i : Nat) (a : Qa) : Nat → Option Qa := fun j => if j = i then some a else P j
theorem setP_self {P : Nat → Option Qa} {i : Nat} {a : Qa} (h : P i = some a) : setP P i a = P := by
  funext j
  unfold setP
  split
  · rename_i e; rw [e, h]
  · rfl
theorem bcs_set (P : Nat → Option Qa) {i : Nat} (hi : i < 6) (a : Qa) : (bcs P).setIfInBounds i (.pointer (some ⟨a.q, 0, none⟩)) = bcs (setP P i a) := by
  rcases (show i = 0 ∨ i = 1 ∨ i = 2 ∨ i = 3 ∨ i = 4 ∨ i = 5 by omega) with rfl | rfl | rfl | rfl | rfl | rfl <;> rfl
/-- A queue has been made. -/
theorem Bs.made {w1 : World} (h : Bs w b n P R) {i : Nat} (hi : i < 6) (hP : P i = none) {a : Qa} (hq : Qs w1 a 0 []) (hb : Below w.heap.size w w1) (hf : ∀ k, a.foot k → w.heap.size ≤ k) :
    Bs (w1.setCell ⟨b, i, none⟩ (.pointer (some ⟨a.q, 0, none⟩))) b n (setP P i a) R ∧ Ft (bfoot b P) w (w1.setCell ⟨b, i, none⟩ (.pointer (some ⟨a.q, 0, none⟩))) := by
  have h1 := h.below hb
  have hnb : ¬ a.foot b := fun e => by have := hf b e; have := h.blk.lt; omega
  have hbq : ∀ {o : Option Qa} {m : Nat} {l : List Tmr}, Qo w1 o m l → ¬ fo o b → Qo (w1.setCell ⟨b, i, none⟩ (.pointer (some ⟨a.q, 0, none⟩))) o m l := fun hq hn =>
    hq.ft ((Ft.refl (fun k => k = b) w1).set (.inl rfl) i _) fun k hk e => hn (e ▸ hk)
  have hR : R i = [] := by have := h.q i hi; rw [hP] at this; exact this
  refine ⟨⟨?_, fun j hj => ?_, fun j k x hj hk hne hjx => ?_, fun j hj => ?_, h.ok, h.nb⟩, (Ft.of_below _ hb).set (.inl (.inl rfl)) i _⟩
  · rw [← bcs_set P hi a]; exact h1.blk.put i _
  · unfold setP
    by_cases e : j = i
    · rw [if_pos e, e, hR]
      have hq' : Qo w1 (some a) 0 [] := hq
      have up : ∀ m, m ≤ 1000000 → Qo w1 (some a) m [] := by
        intro m
        induction m with
        | zero => intro _; exact hq'
        | succ m ih => intro hm; exact (ih (by omega)).up (by omega)
      exact hbq (up n h.nb) hnb
    · rw [if_neg e]
      exact hbq (h1.q j hj) (h.own j hj)
  · have new : ∀ j, j < 6 → fo (P j) x → ¬ a.foot x := fun j hj hx ha => by have := hf x ha; have := (h.q j hj).lts x hx; omega
    unfold setP at hjx ⊢
    by_cases e1 : j = i
    · rw [if_pos e1] at hjx
      rw [if_neg (by omega)]
      exact fun hx => new k hk hx hjx
    · rw [if_neg e1] at hjx
      by_cases e2 : k = i
      · rw [if_pos e2]; exact new j hj hjx
      · rw [if_neg e2]; exact h.ap j k x hj hk hne hjx
  · unfold setP
    by_cases e : j = i
    · rw [if_pos e]; exact hnb
    · rw [if_neg e]; exact h.own j hj
theorem bfoot_set {i : Nat} (hi : i < 6) {a : Qa} {B : Nat} (hf : ∀ k, a.foot k → B ≤ k) (k : Nat) (h : bfoot b (setP P i a) k) : bfoot b P k ∨ B ≤ k := by
  rcases h with rfl | ⟨j, hj, hk⟩
  · exact .inl (.inl rfl)
  · unfold setP at hk
    by_cases e : j = i
    · rw [if_pos e] at hk; exact .inr (hf k hk)
    · rw [if_neg e] at hk; exact .inl (.inr ⟨j, hj, hk⟩)
set_option maxRecDepth 20000 in
set_option maxHeartbeats 1000000 in
theorem queueof (h : Bs w b n P R) (t : Tmr) (h0 : 0 ≤ t.clock) (h2 : t.clock ≤ 2) : Calls Try.prog 19 #[.pointer (some ⟨b, 0, none⟩), tv t] w fun e w' => ∃ a : Qa, e = .returned (.pointer (some ⟨a.q, 0, none⟩)) ∧ Bs w' b n (setP P (ixT t) a) R ∧ Ft (bfoot b P) w w' ∧ ∀ k, bfoot b (setP P (ixT t) a) k → bfoot b P k ∨ w.heap.size ≤ k := by
  obtain ⟨i1, i2, i3, i4, i5⟩ := t
  simp only at h0 h2
  have hix := ixT_lt (t := ⟨i1, i2, i3, i4, i5⟩) h0 h2
  obtain ⟨i, hi⟩ : ∃ i, ixT ⟨i1, i2, i3, i4, i5⟩ = i := ⟨_, rfl⟩
  rw [hi] at hix ⊢
  obtain ⟨W1, hW1⟩ : ∃ W1, W1 = w.alloc (.cells #[.int .i64 i1, .int .i64 i2, .int .i64 i3, .int .i64 i4, .bool i5] 29) := ⟨_, rfl⟩
  have b1 : Below w.heap.size w W1 := by rw [hW1]; exact one_below _ _
  have h1 := h.below b1
  obtain ⟨g, hg⟩ : ∃ g, w.heap.size = g := ⟨_, rfl⟩
  have kt : Blk W1 g 29 #[.int .i64 i1, .int .i64 i2, .int .i64 i3, .int .i64 i4, .bool i5] := by rw [hW1]; exact Blk.new_at _ _ _ hg.symm
  have hcell : ∀ v, pv (P i) = v → W1.drew.cell? ⟨b, i, none⟩ = some v := fun v hv => by
    have e : (bcs P)[i]? = some v := by
      subst hv
      rcases (show i = 0 ∨ i = 1 ∨ i = 2 ∨ i = 3 ∨ i = 4 ∨ i = 5 by omega) with rfl | rfl | rfl | rfl | rfl | rfl <;> rfl
    exact blkAt h1.blk i v e
  have hheld : ∀ v, pv (P i) = v → ∀ w', Below W1.drew.heap.size W1.drew w' → w'.cell? ⟨b, i, none⟩ = some v := fun v hv w' hb => by
    have e : (bcs P)[i]? = some v := by
      subst hv
      rcases (show i = 0 ∨ i = 1 ∨ i = 2 ∨ i = 3 ∨ i = 4 ∨ i = 5 by omega) with rfl | rfl | rfl | rfl | rfl | rfl <;> rfl
    exact hkHeld (W := W1.drew) h1.blk i v e w' hb
  have hfree : ∀ w', Below W1.drew.heap.size W1.drew w' → w'.frozen? ⟨b, i, none⟩ = false := hkFree (W := W1.drew) h1.blk i
  have c1 : W1.drew.cell? ⟨g, 1, none⟩ = some (.int .i64 i2) := blkAt kt 1 (.int .i64 i2) rfl
  have c4 : W1.cell? ⟨g, 4, none⟩ = some (.bool i5) := blkAt kt 4 (.bool i5) rfl
  have H := hide (And.intro h b1)
  have CN := fun w' => hide (snew w')
  rw [show tv ⟨i1, i2, i3, i4, i5⟩ = .agg #[.int .i64 i1, .int .i64 i2, .int .i64 i3, .int .i64 i4, .bool i5] from rfl]
  cases hP : P i with
  | some a =>
    rw [hP] at hcell
    have cc := hcell (.pointer (some ⟨a.q, 0, none⟩)) rfl
    have HE := hide (setP_self hP)
    clear hcell hheld hfree CN kt h1 b1 h hP
    have HW := hide hW1
    rw [hW1] at c4
    clear hW1
    have ho : Hid (ixT ⟨i1, i2, i3, i4, i5⟩ = i) := hide hi
    unfold ixT at hi
    rcases (show i2 = 0 ∨ i2 = 1 ∨ i2 = 2 by omega) with rfl | rfl | rfl <;> cases i5
    all_goals
      simp at hi
      subst hi
      go_enter Try.func19, Try.ntmps19
      go_wp2
      rw [← unhide HW]
      go_region
      go_wp2
      go_ret
      obtain ⟨h, b1⟩ := unhide H
      have hbd : Below w.heap.size w W1.drew := below_drew b1
      refine ⟨a, rfl, by rw [unhide HE]; exact h.below hbd, Ft.of_below _ hbd, fun k hk => by rw [unhide HE] at hk; exact .inl hk⟩
  | none =>
    rw [hP] at hcell hheld
    have cc := hcell (.pointer none) rfl
    have ch := hheld (.pointer none) rfl
    have HE := hide (fun (w2 : World) (a : Qa) (hq : Qs w2 a 0 []) (hb : Below W1.drew.heap.size W1.drew w2) (hf : ∀ k, a.foot k → W1.drew.heap.size ≤ k) => And.intro (h.made hix hP hq ((below_drew b1).trans (hb.mono b1.size)) (fun k hk => Nat.le_trans b1.size (hf k hk))) (bfoot_set (b := b) (P := P) hix (B := w.heap.size) (fun k hk => Nat.le_trans b1.size (hf k hk))))
    clear hcell hheld kt h1 b1 h hP
    have HW := hide hW1
    rw [hW1] at c4
    clear hW1 H
    unfold ixT at hi
    rcases (show i2 = 0 ∨ i2 = 1 ∨ i2 = 2 by omega) with rfl | rfl | rfl <;> cases i5
    all_goals
      simp at hi
      subst hi
      go_enter Try.func19, Try.ntmps19
      go_wp2
      rw [← unhide HW]
      go_region
      go_wp2_with (go_at_call 39; refine (unhide (CN _)).mono ?_; rintro e w2 ⟨a, rfl, hq, hb, hf⟩; have c2 := ch _ hb; have f2 := hfree _ hb)
      go_ret
      obtain ⟨⟨h1, h2⟩, h3⟩ := unhide HE _ _ hq hb hf
      exact ⟨a, rfl, h1, h2, h3⟩
end
end Go.Proofs.Ytabmjaioejacaaa
