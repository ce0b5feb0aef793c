import Derived.Test.YtjjdkkdnlnbedaaGreatBaA
/- A base's Start. -/
namespace Go.Proofs.YtjjdkkdnlnbedaaGreat
open Go.RowKit Kt Qu
set_option linter.unusedVariables false

section
variable {w w' : World} {b n : Nat} {P : Nat → Option Qa} {R : Rows6}
/-- A queue is there, of the timer's row: made, if it wasn't. -/
def setP (P : Nat → Option Qa) (i : Nat) (a : Qa) : Nat → Option Qa := fun j => if j = i then some a else P j
theorem setP_self {P : Nat → Option Qa} {i : Nat} {a : Qa} (h : P i = some a) : setP P i a = P := by
  funext j
  unfold setP
  split
  · rename_i e; rw [e, h]
  · rfl
theorem bcs_set (P : Nat → Option Qa) {i : Nat} (hi : i < 6) (a : Qa) : (bcs P).setIfInBounds i (.pointer (some ⟨a.q, 0, none⟩)) = bcs (setP P i a) := by
  rcases (show i = 0 ∨ i = 1 ∨ i = 2 ∨ i = 3 ∨ i = 4 ∨ i = 5 by omega) with rfl | rfl | rfl | rfl | rfl | rfl <;> rfl
/-- A queue has been made. -/
theorem Bs.made {w1 : World} (h : Bs w b n P R) {i : Nat} (hi : i < 6) (hP : P i = none) {a : Qa} (hq : Qs w1 a 0 []) (hb : Below w.heap.size w w1) (hf : ∀ k, a.foot k → w.heap.size ≤ k) :
    Bs (w1.setCell ⟨b, i, none⟩ (.pointer (some ⟨a.q, 0, none⟩))) b n (setP P i a) R ∧ Ft (bfoot b P) w (w1.setCell ⟨b, i, none⟩ (.pointer (some ⟨a.q, 0, none⟩))) := by
  have h1 := h.below hb
  have hnb : ¬ a.foot b := fun e => by have := hf b e; have := h.blk.lt; omega
  have hbq : ∀ {o : Option Qa} {m : Nat} {l : List Tmr}, Qo w1 o m l → ¬ fo o b → Qo (w1.setCell ⟨b, i, none⟩ (.pointer (some ⟨a.q, 0, none⟩))) o m l := fun hq hn =>
    hq.ft ((Ft.refl (fun k => k = b) w1).set (.inl rfl) i _) fun k hk e => hn (e ▸ hk)
  have hR : R i = [] := by have := h.q i hi; rw [hP] at this; exact this
  refine ⟨⟨?_, fun j hj => ?_, fun j k x hj hk hne hjx => ?_, fun j hj => ?_, h.ok, h.nb⟩, (Ft.of_below _ hb).set (.inl (.inl rfl)) i _⟩
  · rw [← bcs_set P hi a]; exact h1.blk.put i _
  · unfold setP
    by_cases e : j = i
    · rw [if_pos e, e, hR]
      have hq' : Qo w1 (some a) 0 [] := hq
      have up : ∀ m, m ≤ 1000000 → Qo w1 (some a) m [] := by
        intro m
        induction m with
        | zero => intro _; exact hq'
        | succ m ih => intro hm; exact (ih (by omega)).up (by omega)
      exact hbq (up n h.nb) hnb
    · rw [if_neg e]
      exact hbq (h1.q j hj) (h.own j hj)
  · have new : ∀ j, j < 6 → fo (P j) x → ¬ a.foot x := fun j hj hx ha => by have := hf x ha; have := (h.q j hj).lts x hx; omega
    unfold setP at hjx ⊢
    by_cases e1 : j = i
    · rw [if_pos e1] at hjx
      rw [if_neg (by omega)]
      exact fun hx => new k hk hx hjx
    · rw [if_neg e1] at hjx
      by_cases e2 : k = i
      · rw [if_pos e2]; exact new j hj hjx
      · rw [if_neg e2]; exact h.ap j k x hj hk hne hjx
  · unfold setP
    by_cases e : j = i
    · rw [if_pos e]; exact hnb
    · rw [if_neg e]; exact h.own j hj
theorem bfoot_set {i : Nat} (hi : i < 6) {a : Qa} {B : Nat} (hf : ∀ k, a.foot k → B ≤ k) (k : Nat) (h : bfoot b (setP P i a) k) : bfoot b P k ∨ B ≤ k := by
  rcases h with rfl | ⟨j, hj, hk⟩
  · exact .inl (.inl rfl)
  · unfold setP at hk
    by_cases e : j = i
    · rw [if_pos e] at hk; exact .inr (hf k hk)
    · rw [if_neg e] at hk; exact .inl (.inr ⟨j, hj, hk⟩)
set_option maxRecDepth 20000 in
set_option maxHeartbeats 1000000 in
theorem queueof (h : Bs w b n P R) (t : Tmr) (h0 : 0 ≤ t.clock) (h2 : t.clock ≤ 2) : Calls Tryz.prog 92 #[.pointer (some ⟨b, 0, none⟩), tv t] w fun e w' => ∃ a : Qa, e = .returned (.pointer (some ⟨a.q, 0, none⟩)) ∧ Bs w' b n (setP P (ixT t) a) R ∧ Ft (bfoot b P) w w' ∧ ∀ k, bfoot b (setP P (ixT t) a) k → bfoot b P k ∨ w.heap.size ≤ k := by
  obtain ⟨i1, i2, i3, i4, i5⟩ := t
  simp only at h0 h2
  have hix := ixT_lt (t := ⟨i1, i2, i3, i4, i5⟩) h0 h2
  obtain ⟨i, hi⟩ : ∃ i, ixT ⟨i1, i2, i3, i4, i5⟩ = i := ⟨_, rfl⟩
  rw [hi] at hix ⊢
  obtain ⟨W1, hW1⟩ : ∃ W1, W1 = w.alloc (.cells #[.int .i64 i1, .int .i64 i2, .int .i64 i3, .int .i64 i4, .bool i5] 35) := ⟨_, rfl⟩
  have b1 : Below w.heap.size w W1 := by rw [hW1]; exact one_below _ _
  have h1 := h.below b1
  obtain ⟨g, hg⟩ : ∃ g, w.heap.size = g := ⟨_, rfl⟩
  have kt : Blk W1 g 35 #[.int .i64 i1, .int .i64 i2, .int .i64 i3, .int .i64 i4, .bool i5] := by rw [hW1]; exact Blk.new_at _ _ _ hg.symm
  have hcell : ∀ v, pv (P i) = v → W1.drew.cell? ⟨b, i, none⟩ = some v := fun v hv => by
    have e : (bcs P)[i]? = some v := by
      subst hv
      rcases (show i = 0 ∨ i = 1 ∨ i = 2 ∨ i = 3 ∨ i = 4 ∨ i = 5 by omega) with rfl | rfl | rfl | rfl | rfl | rfl <;> rfl
    exact blkAt h1.blk i v e
  have hheld : ∀ v, pv (P i) = v → ∀ w', Below W1.drew.heap.size W1.drew w' → w'.cell? ⟨b, i, none⟩ = some v := fun v hv w' hb => by
    have e : (bcs P)[i]? = some v := by
      subst hv
      rcases (show i = 0 ∨ i = 1 ∨ i = 2 ∨ i = 3 ∨ i = 4 ∨ i = 5 by omega) with rfl | rfl | rfl | rfl | rfl | rfl <;> rfl
    exact hkHeld (W := W1.drew) h1.blk i v e w' hb
  have hfree : ∀ w', Below W1.drew.heap.size W1.drew w' → w'.frozen? ⟨b, i, none⟩ = false := hkFree (W := W1.drew) h1.blk i
  have c1 : W1.drew.cell? ⟨g, 1, none⟩ = some (.int .i64 i2) := blkAt kt 1 (.int .i64 i2) rfl
  have c4 : W1.cell? ⟨g, 4, none⟩ = some (.bool i5) := blkAt kt 4 (.bool i5) rfl
  have H := hide (And.intro h b1)
  have CN := fun w' => hide (snew w')
  rw [show tv ⟨i1, i2, i3, i4, i5⟩ = .agg #[.int .i64 i1, .int .i64 i2, .int .i64 i3, .int .i64 i4, .bool i5] from rfl]
  cases hP : P i with
  | some a =>
    rw [hP] at hcell
    have cc := hcell (.pointer (some ⟨a.q, 0, none⟩)) rfl
    have HE := hide (setP_self hP)
    clear hcell hheld hfree CN kt h1 b1 h hP
    have HW := hide hW1
    rw [hW1] at c4
    clear hW1
    have ho : Hid (ixT ⟨i1, i2, i3, i4, i5⟩ = i) := hide hi
    unfold ixT at hi
    rcases (show i2 = 0 ∨ i2 = 1 ∨ i2 = 2 by omega) with rfl | rfl | rfl <;> cases i5
    all_goals
      simp at hi
      subst hi
      go_enter Tryz.func92, Tryz.ntmps92
      go_wp2
      rw [← unhide HW]
      go_region
      go_wp2
      go_ret
      obtain ⟨h, b1⟩ := unhide H
      have hbd : Below w.heap.size w W1.drew := below_drew b1
      refine ⟨a, rfl, by rw [unhide HE]; exact h.below hbd, Ft.of_below _ hbd, fun k hk => by rw [unhide HE] at hk; exact .inl hk⟩
  | none =>
    rw [hP] at hcell hheld
    have cc := hcell (.pointer none) rfl
    have ch := hheld (.pointer none) rfl
    have HE := hide (fun (w2 : World) (a : Qa) (hq : Qs w2 a 0 []) (hb : Below W1.drew.heap.size W1.drew w2) (hf : ∀ k, a.foot k → W1.drew.heap.size ≤ k) => And.intro (h.made hix hP hq ((below_drew b1).trans (hb.mono b1.size)) (fun k hk => Nat.le_trans b1.size (hf k hk))) (bfoot_set (b := b) (P := P) hix (B := w.heap.size) (fun k hk => Nat.le_trans b1.size (hf k hk))))
    clear hcell hheld kt h1 b1 h hP
    have HW := hide hW1
    rw [hW1] at c4
    clear hW1 H
    unfold ixT at hi
    rcases (show i2 = 0 ∨ i2 = 1 ∨ i2 = 2 by omega) with rfl | rfl | rfl <;> cases i5
    all_goals
      simp at hi
      subst hi
      go_enter Tryz.func92, Tryz.ntmps92
      go_wp2
      rw [← unhide HW]
      go_region
      go_wp2_with (go_at_call 113; refine (unhide (CN _)).mono ?_; rintro e w2 ⟨a, rfl, hq, hb, hf⟩; have c2 := ch _ hb; have f2 := hfree _ hb)
      go_ret
      obtain ⟨⟨h1, h2⟩, h3⟩ := unhide HE _ _ hq hb hf
      exact ⟨a, rfl, h1, h2, h3⟩
end
end Go.Proofs.YtjjdkkdnlnbedaaGreat


/- A base's Start: the whole call. -/
namespace Go.Proofs.YtjjdkkdnlnbedaaGreat
open Go.RowKit Kt Qu
set_option linter.unusedVariables false

theorem Ft.next {F G : Nat → Prop} {a b c : World} (h : Ft F a b) (k : Ft G b c) (hG : ∀ x, G x → F x ∨ a.heap.size ≤ x) : Ft F a c :=
  ⟨k.os.trans h.os, k.tape.trans h.tape, k.output.trans h.output, Nat.le_trans h.size k.size, fun i hi h1 => (k.block i (Nat.lt_of_lt_of_le hi h.size) (fun hg => by
    rcases hG i hg with h2 | h2
    · exact h1 h2
    · omega)).trans (h.block i hi h1)⟩
def startE (R : Rows6) (t : Tmr) : Int := if t.clock < 0 ∨ 3 ≤ t.clock then 2 else if t.id ∈ idsT (allT R) then 9 else addE (R (ixT t)) t
def startR (R : Rows6) (t : Tmr) : Rows6 := if startE R t = 0 then putT R t else R
section
variable {w w' : World} {b n : Nat} {P : Nat → Option Qa} {R : Rows6}
theorem Bs.up (h : Bs w b n P R) (hn : n < 1000000) : Bs w b (n + 1) P R := ⟨h.blk, fun i hi => (h.q i hi).up hn, h.ap, h.own, h.ok, by omega⟩
theorem setT_id (R : Rows6) (i : Nat) : setT R i (R i) = R := by
  funext j
  unfold setT
  split
  · rename_i e; rw [e]
  · rfl
theorem Bs.added {a : Qa} (h : Bs w b n P R) (t : Tmr) (hc : ¬ (t.clock < 0 ∨ 3 ≤ t.clock)) (hid : t.id ∉ idsT (allT R)) (hP : P (ixT t) = some a) (hn : n < 1000000) (h2 : Qs w' a (n + 1) (addR (R (ixT t)) t)) (f : Ft a.foot w w') : Bs w' b (n + 1) P (startR R t) ∧ Ft (bfoot b P) w w' := by
  have hi := ixT_lt (t := t) (by omega) (by omega)
  have e : startR R t = setT R (ixT t) (addR (R (ixT t)) t) := by
    unfold startR startE addR
    rw [if_neg hc, if_neg hid]
    split
    · rfl
    · rw [setT_id]
  rw [e]
  refine (h.up hn).step hi (by rw [hP]; exact h2) (by rw [hP]; exact f) ?_
  rw [← e]
  unfold startR
  split
  · exact h.ok.put (by omega) (by omega) hid
  · exact h.ok
theorem start_nil (w : World) (t : Tmr) : Calls Tryz.prog 65 #[.pointer none, tv t] w fun e w' => e = .returned (.int .i64 1) ∧ Below w.heap.size w w' := by
  obtain ⟨i1, i2, i3, i4, i5⟩ := t
  unfold tv
  have hb := hide (one_below w (.cells #[.int .i64 i1, .int .i64 i2, .int .i64 i3, .int .i64 i4, .bool i5] 35))
  go_enter Tryz.func65, Tryz.ntmps65
  go_wp2
  go_ret
  exact ⟨rfl, unhide hb⟩
set_option maxRecDepth 20000 in
set_option maxHeartbeats 1000000 in
theorem bstart (h : Bs w b n P R) (hn : n < 1000000) (t : Tmr) (ht : okT t) : Calls Tryz.prog 65 #[.pointer (some ⟨b, 0, none⟩), tv t] w fun e w' => e = .returned (.int .i64 (startE R t)) ∧ ∃ P', Bs w' b (n + 1) P' (startR R t) ∧ Ft (bfoot b P) w w' ∧ ∀ k, bfoot b P' k → bfoot b P k ∨ w.heap.size ≤ k := by
  have hsame : ∀ w', Below w.heap.size w w' → startR R t = R → ∃ P', Bs w' b (n + 1) P' (startR R t) ∧ Ft (bfoot b P) w w' ∧ ∀ k, bfoot b P' k → bfoot b P k ∨ w.heap.size ≤ k :=
    fun w' hb e => ⟨P, by rw [e]; exact (h.below hb).up hn, Ft.of_below _ hb, fun k hk => .inl hk⟩
  have HS := hide hsame
  clear hsame
  by_cases hc : t.clock < 0 ∨ 3 ≤ t.clock
  · have eE : startE R t = 2 := if_pos hc
    have eR : startR R t = R := by unfold startR; rw [eE]; rfl
    have HR := hide eR
    rw [eE]
    generalize startR R t = R2 at *
    obtain ⟨i1, i2, i3, i4, i5⟩ := t
    unfold tv
    have hb := hide (one_below w (.cells #[.int .i64 i1, .int .i64 i2, .int .i64 i3, .int .i64 i4, .bool i5] 35))
    simp only at hc
    clear eE eR h ht
    rcases hc with hc | hc
    · go_enter Tryz.func65, Tryz.ntmps65
      go_wp2
      go_ret
      exact ⟨rfl, unhide HS _ (unhide hb) (unhide HR)⟩
    · have hc2 : ¬ i2 < 0 := by omega
      go_enter Tryz.func65, Tryz.ntmps65
      go_wp2
      go_ret
      exact ⟨rfl, unhide HS _ (unhide hb) (unhide HR)⟩
  · obtain ⟨W1, hW1⟩ : ∃ W1, W1 = w.alloc (.cells #[.int .i64 t.id, .int .i64 t.clock, .int .i64 t.soft, .int .i64 t.hard, .bool t.lazy] 35) := ⟨_, rfl⟩
    have b1 : Below w.heap.size w W1 := by rw [hW1]; exact one_below _ _
    have h1 := h.below b1
    obtain ⟨g, hg⟩ : ∃ g, w.heap.size = g := ⟨_, rfl⟩
    have kt : Blk W1 g 35 #[.int .i64 t.id, .int .i64 t.clock, .int .i64 t.soft, .int .i64 t.hard, .bool t.lazy] := by rw [hW1]; exact Blk.new_at _ _ _ hg.symm
    have CH := hide (bhas h1 t.id ht.1)
    by_cases hm : t.id ∈ idsT (allT R)
    · have eE : startE R t = 9 := by unfold startE; rw [if_neg hc, if_pos hm]
      have eR : startR R t = R := by unfold startR; rw [eE]; rfl
      have HR := hide eR
      rw [eE]
      generalize startR R t = R2 at *
      rw [decide_eq_true hm] at CH
      have HB := hide b1
      have HW := hide hW1
      clear eE eR h h1 ht hm kt b1 hW1 hg
      obtain ⟨i1, i2, i3, i4, i5⟩ := t
      unfold tv
      simp only at hc CH HW
      have hc1 : ¬ i2 < 0 := by omega
      have hc2 : ¬ 3 ≤ i2 := by omega
      clear hc
      go_enter Tryz.func65, Tryz.ntmps65
      go_wp2_with (go_at_call 85; refine Hid.out ?_)
      refine hide ?_
      rw [← unhide HW]
      refine (unhide CH).mono ?_
      rintro e w2 ⟨rfl, hb2⟩
      go_wp2
      go_ret
      exact ⟨rfl, unhide HS _ ((unhide HB).trans (hb2.mono (unhide HB).size)) (unhide HR)⟩
    · have eE : startE R t = addE (R (ixT t)) t := by unfold startE; rw [if_neg hc, if_neg hm]
      rw [decide_eq_false hm] at CH
      have hn2 := hn
      have CADD := hide (fun (w3 : World) (a : Qa) (b3 : Bs w3 b n (setP P (ixT t) a) R) => And.intro (sadd (a := a) (R := R (ixT t)) (n := n) (w := w3) (by
          have := b3.q (ixT t) (ixT_lt (by omega) (by omega))
          rw [show setP P (ixT t) a (ixT t) = some a from if_pos rfl] at this
          exact this) hn t ht) (fun (w4 : World) h2 f => b3.added (w' := w4) t hc hm (if_pos rfl) hn h2 f))
      have CQ := hide (fun (w2 : World) (hb2 : Below W1.heap.size W1 w2) => queueof ((h1.below hb2).below (below_drew (Below.refl _ _))) t (by omega) (by omega))
      have HB := hide (And.intro b1 hg)
      have HW := hide hW1
      have HT := hide (fun (w2 : World) (hb2 : Below W1.heap.size W1 w2) => kt.below hb2 kt.lt)
      have HG := hide (show ¬ bfoot b P g from fun e => by have := h.lts g e; omega)
      have HF := hide (fun (a : Qa) (k : Nat) (hk : a.foot k) => show bfoot b (setP P (ixT t) a) k from .inr ⟨ixT t, ixT_lt (by omega) (by omega), by rw [show setP P (ixT t) a (ixT t) = some a from if_pos rfl]; exact hk⟩)
      rw [eE]
      generalize addE (R (ixT t)) t = E at *
      obtain ⟨R2, hR2⟩ : ∃ R2, startR R t = R2 := ⟨_, rfl⟩
      rw [hR2] at CADD ⊢
      obtain ⟨i, hi⟩ : ∃ i, ixT t = i := ⟨_, rfl⟩
      rw [hi] at CADD CQ HF
      obtain ⟨F, hF⟩ : ∃ F, bfoot b P = F := ⟨_, rfl⟩
      rw [hF] at CQ HG ⊢
      clear eE h h1 ht hm kt b1 hW1 HS hi hR2
      obtain ⟨i1, i2, i3, i4, i5⟩ := t
      unfold tv at CADD CQ ⊢
      simp only at hc CH HW CADD CQ HT ⊢
      have hc1 : ¬ i2 < 0 := by omega
      have hc2 : ¬ 3 ≤ i2 := by omega
      clear hc
      go_enter Tryz.func65, Tryz.ntmps65
      go_wp2_with (go_at_call 85; refine Hid.out ?_)
      refine hide ?_
      rw [← unhide HW]
      refine (unhide CH).mono ?_
      rintro e w2 ⟨rfl, hb2⟩
      have kt := unhide HT w2 hb2
      have r0 : ∀ w', Ft F w2 w' → w'.cell? ⟨g, 0, none⟩ = some (.int .i64 i1) := fun w' hf => blkAt (kt.ft hf (unhide HG)) 0 (.int .i64 i1) rfl
      have r1 : ∀ w', Ft F w2 w' → w'.cell? ⟨g, 1, none⟩ = some (.int .i64 i2) := fun w' hf => blkAt (kt.ft hf (unhide HG)) 1 (.int .i64 i2) rfl
      have r2 : ∀ w', Ft F w2 w' → w'.cell? ⟨g, 2, none⟩ = some (.int .i64 i3) := fun w' hf => blkAt (kt.ft hf (unhide HG)) 2 (.int .i64 i3) rfl
      have r3 : ∀ w', Ft F w2 w' → w'.cell? ⟨g, 3, none⟩ = some (.int .i64 i4) := fun w' hf => blkAt (kt.ft hf (unhide HG)) 3 (.int .i64 i4) rfl
      have r4 : ∀ w', Ft F w2 w' → w'.cell? ⟨g, 4, none⟩ = some (.bool i5) := fun w' hf => blkAt (kt.ft hf (unhide HG)) 4 (.bool i5) rfl
      have CQ2 := hide (unhide CQ w2 hb2)
      have S0 : Ft F w2 w2.drew := (Ft.refl F w2).drew
      have HB2 := hide hb2
      clear kt hb2 CQ CH HT HG
      go_wp2
      refine wp_region_held_drew (S := (fun w' => Ft F w2 w')) (by kernel_rfl) ?_ (fun hHeld => ?_)
      · (first | assumption)
      refine wpAnyH_take (i := 0) (oi := ?o1) (v := ?v1) ?hi1 (by kernel_rfl) (by kernel_rfl) (by kernel_rfl) ?hQ1 (Or.inl ⟨?hw1, ?hy1⟩) (by assumption) ?_
      case hi1 => (simp only [List.getElem?_toArray, List.getElem?_cons_zero]; rfl)
      case hQ1 => exact fun _ _ _ h => h
      case hw1 => rfl
      case hy1 => (intro w hSw; (try dsimp only at hSw); go_simp; (try with_reducible rfl))
      simp only [Act.put, List.setIfInBounds_toArray, List.set_cons_zero, List.set_cons_succ]
      refine wpAnyH_take (i := 1) (oi := ?o2) (v := ?v2) ?hi2 (by kernel_rfl) (by kernel_rfl) (by kernel_rfl) ?hQ2 (Or.inl ⟨?hw2, ?hy2⟩) (by assumption) ?_
      case hi2 => (simp only [List.getElem?_toArray, List.getElem?_cons_succ, List.getElem?_cons_zero]; rfl)
      case hQ2 => exact fun _ _ _ h => h
      case hw2 => rfl
      case hy2 => (intro w hSw; (try dsimp only at hSw); go_simp; (try with_reducible rfl))
      simp only [Act.put, List.setIfInBounds_toArray, List.set_cons_zero, List.set_cons_succ]
      refine wpAnyH_take (i := 3) (oi := ?o3) (v := ?v3) ?hi3 (by kernel_rfl) (by kernel_rfl) (by kernel_rfl) ?hQ3 (Or.inl ⟨?hw3, ?hy3⟩) (by assumption) ?_
      case hi3 => (simp only [List.getElem?_toArray, List.getElem?_cons_succ, List.getElem?_cons_zero]; rfl)
      case hQ3 => exact fun _ _ _ h => h
      case hw3 => rfl
      case hy3 => (intro w hSw; (try dsimp only at hSw); go_simp; (try with_reducible rfl))
      simp only [Act.put, List.setIfInBounds_toArray, List.set_cons_zero, List.set_cons_succ]
      refine wpAnyH_ready (rs := [2]) (by kernel_rfl) (by simp) ?_
      refine AllReadyH.cons (o := ?o4) ?hi4 (fun K hK => ?_) AllReadyH.nil
      case hi4 => (simp only [List.getElem?_toArray, List.getElem?_cons_succ, List.getElem?_cons_zero]; rfl)
      go_simp
      (first | (go_at_call 92; refine (unhide CQ2).mono ?_; rintro e w3 ⟨a, rfl, b3, f3, n3⟩; have S3 : Ft F w2 w3 := S0.trans f3; have H3 := hide (And.intro b3 n3); clear b3 f3 n3) | (go_at_call 93; refine (unhide CADD _ _ (unhide H3).1).1.mono ?_; rintro e w4 ⟨rfl, q4, f4⟩; have S4 : Ft F w2 w4 := S3.next f4 (fun k hk => (unhide H3).2 k (unhide HF a k hk)); have H4 := hide (And.intro q4 f4); clear q4 f4)); go_wp2_with fail
      refine hK.out _ _ ?_ (fun hHeld => ?_)
      · (first | assumption)
      clear hK K
      refine wpAnyH_ready (rs := [4]) (by kernel_rfl) (by simp) ?_
      refine AllReadyH.cons (o := ?o5) ?hi5 (fun K hK => ?_) AllReadyH.nil
      case hi5 => (simp only [List.getElem?_toArray, List.getElem?_cons_succ, List.getElem?_cons_zero]; rfl)
      go_simp
      (first | (go_at_call 92; refine (unhide CQ2).mono ?_; rintro e w3 ⟨a, rfl, b3, f3, n3⟩; have S3 : Ft F w2 w3 := S0.trans f3; have H3 := hide (And.intro b3 n3); clear b3 f3 n3) | (go_at_call 93; refine (unhide CADD _ _ (unhide H3).1).1.mono ?_; rintro e w4 ⟨rfl, q4, f4⟩; have S4 : Ft F w2 w4 := S3.next f4 (fun k hk => (unhide H3).2 k (unhide HF a k hk)); have H4 := hide (And.intro q4 f4); clear q4 f4)); go_wp2_with fail
      refine hK.out _ _ ?_ (fun hHeld => ?_)
      · (first | assumption)
      clear hK K
      refine wpAnyH_take (i := 5) (oi := ?o6) (v := ?v6) ?hi6 (by kernel_rfl) (by kernel_rfl) (by kernel_rfl) ?hQ6 (Or.inl ⟨?hw6, ?hy6⟩) (by assumption) ?_
      case hi6 => (simp only [List.getElem?_toArray, List.getElem?_cons_succ, List.getElem?_cons_zero]; rfl)
      case hQ6 => exact fun _ _ _ h => h
      case hw6 => rfl
      case hy6 => (intro w hSw; (try dsimp only at hSw); go_simp; (try with_reducible rfl))
      simp only [Act.put, List.setIfInBounds_toArray, List.set_cons_zero, List.set_cons_succ]
      refine wpAnyH_done (by kernel_rfl) ?_ _
      go_wp2
      go_ret
      obtain ⟨b3, n3⟩ := unhide H3
      obtain ⟨q4, f4⟩ := unhide H4
      obtain ⟨x4, -⟩ := (unhide CADD _ _ b3).2 _ q4 f4
      have hb12 := (unhide HB).1.trans ((unhide HB2).mono (unhide HB).1.size)
      exact ⟨rfl, _, x4, (Ft.of_below F hb12).trans S4, fun k hk => (n3 k hk).imp id (fun x => Nat.le_trans hb12.size x)⟩
end
end Go.Proofs.YtjjdkkdnlnbedaaGreat

