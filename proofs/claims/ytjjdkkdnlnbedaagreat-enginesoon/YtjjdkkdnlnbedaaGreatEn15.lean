/- A client's view of an engine. -/
import Derived.Test.YtjjdkkdnlnbedaaGreatEn13
import Derived.Test.YtjjdkkdnlnbedaaGreatEn14
namespace Go.Proofs.YtjjdkkdnlnbedaaGreat
open Go.RowKit Kt Qu
set_option linter.unusedVariables false

section
variable {w w' : World} {l : Loc} {e : En}
theorem do_any (h : Es w l e) (hok : EnOk e) (s : Stp) (hN : isI s.n) (ht : okT s.t) (hm : l.m + 400 < 1000000) (hz : e.z.n ≤ 900) : Calls Tryz.prog 14 #[.pointer (some ⟨l.g, 0, none⟩), stv s] w (DoP w l (e.step s)) := by
  obtain ⟨k, cpu, N, t⟩ := s
  unfold En.step
  simp only at hN ht ⊢
  by_cases q1 : k = 1
  · subst q1; exact do_start h hok cpu N t hN ht hm hz
  rw [if_neg q1]
  by_cases q2 : k = 2
  · subst q2; exact do_cancel h hok cpu N t hN ht hm hz
  rw [if_neg q2]
  by_cases q3 : k = 3
  · subst q3; exact do_adv h hok cpu N t hN ht hm hz
  rw [if_neg q3]
  by_cases q4 : k = 4
  · subst q4; exact do_irq h hok cpu N t hN ht hm hz
  rw [if_neg q4]
  by_cases q5 : k = 5
  · subst q5; exact do_soft h hok cpu N t hN ht hm hz
  rw [if_neg q5]
  by_cases q6 : k = 6
  · subst q6; exact do_kick h hok cpu N t hN ht hm hz
  rw [if_neg q6]
  by_cases q7 : k = 7
  · subst q7; exact do_set h hok cpu N t hN ht hm hz
  rw [if_neg q7]
  by_cases q8 : k = 8
  · subst q8; exact do_susp h hok cpu N t hN ht hm hz
  rw [if_neg q8]
  by_cases q9 : k = 9
  · subst q9; exact do_res h hok cpu N t hN ht hm hz
  rw [if_neg q9]
  by_cases q10 : k = 10
  · subst q10; exact do_leave h hok cpu N t hN ht hm hz
  rw [if_neg q10]
  by_cases q11 : k = 11
  · subst q11; exact do_enter h hok cpu N t hN ht hm hz
  rw [if_neg q11]
  by_cases q12 : k = 12
  · subst q12; exact do_settle h hok cpu N t hN ht hm hz
  rw [if_neg q12]
  exact do_bad h hok cpu N t hN ht hm hz k (by omega)
set_option maxRecDepth 20000 in
theorem do_nil (s : Stp) (w : World) : Calls Tryz.prog 14 #[.pointer none, stv s] w fun r w' => r = .returned (.tuple #[.slice none 0 0, .int .i64 1]) ∧ Below w.heap.size w w' := by
  obtain ⟨k, cpu, N, ⟨i1, i2, i3, i4, i5⟩⟩ := s
  unfold stv stc
  obtain ⟨b0, hb0⟩ : ∃ b, w.heap.size = b := ⟨_, rfl⟩
  obtain ⟨W1, hW1⟩ : ∃ W1, W1 = w.alloc (.cells #[.pointer none] 24) := ⟨_, rfl⟩
  obtain ⟨W2, hW2⟩ : ∃ W2, W2 = W1.alloc (.cells #[.int .i64 k, .int .i64 cpu, .int .i64 N, .int .i64 i1, .int .i64 i2, .int .i64 i3, .int .i64 i4, .bool i5] 37) := ⟨_, rfl⟩
  have b1 : Below w.heap.size w W1 := by rw [hW1]; exact one_below _ _
  have b2 : Below W1.heap.size W1 W2 := by rw [hW2]; exact one_below _ _
  have k1 : Blk W1 b0 24 #[.pointer none] := by rw [hW1]; exact Blk.new_at _ _ _ hb0.symm
  have z0 : W2.cell? ⟨b0, 0, none⟩ = some (.pointer none) := blkAt (k1.below b2 k1.lt) 0 _ rfl
  have HB := hide (b1.trans (b2.mono b1.size))
  rw [hW1] at hW2
  have HW2 := hide hW2
  clear hW1 hW2 b1 b2 k1
  go_enter Tryz.func14, Tryz.ntmps14
  go_upto_region 1 with fail
  rw [← unhide HW2]
  go_wp2_with fail
  go_ret2
  exact ⟨rfl, unhide HB⟩
end
/-- How often an offset changed grows by one at most. -/
theorem next1_z {e e1 : En} {l : List Frd} (hx : e.next1 = some (l, e1)) : e1.z = e.z := by
  unfold En.next1 at hx
  split at hx
  · cases hx; rfl
  · split at hx
    · cases hx; rfl
    · split at hx
      · cases hx; rfl
      · cases hx
theorem settleF_z : ∀ (k : Nat) (e : En), (settleF k e).2.z = e.z
  | 0, e => rfl
  | k + 1, e => by
    show (match e.next1 with | none => ([], e) | some (l, e1) => (l ++ (settleF k e1).1, (settleF k e1).2) : List Frd × En).2.z = _
    cases hx : e.next1 with
    | none => rfl
    | some o =>
      obtain ⟨l, e1⟩ := o
      show (settleF k e1).2.z = _
      rw [settleF_z k e1, next1_z hx]
theorem handler_z (e : En) (cpu : Int) : (e.doIrq cpu).2.2.z = e.z ∧ (e.doSoft cpu).2.2.z = e.z ∧ (e.doKick cpu).2.2.z = e.z := by
  unfold En.doIrq En.doSoft En.doKick
  refine ⟨?_, ?_, ?_⟩ <;> (split; rfl; split <;> rfl)
theorem start_z (e : En) (cpu : Int) (t : Tmr) : (e.start cpu t).2.z = e.z := by
  unfold En.start
  by_cases h1 : e.on cpu = false ∨ t.clock < 0 ∨ 3 ≤ t.clock ∨ t.hard < t.soft
  · rw [if_pos h1]
  rw [if_neg h1]
  by_cases h2 : e.wher t.id ≠ none
  · rw [if_pos h2]
  rw [if_neg h2]
  by_cases h3 : 64 ≤ e.len
  · rw [if_pos h3]
  rw [if_neg h3]; rfl
theorem cancel_z (e : En) (id : Int) : (e.cancel id).2.z = e.z := by unfold En.cancel; split <;> rfl
theorem leave_z (e : En) (cpu : Int) : (e.leave cpu).2.z = e.z := by
  unfold En.leave
  split
  · rfl
  · split
    · rfl
    · rfl
theorem enter_z (e : En) (cpu : Int) : (e.enter cpu).2.z = e.z := by
  unfold En.enter
  split
  · rfl
  · split
    · rfl
    · rfl
theorem adv_zn (e : En) (k : Int) : (e.adv k).2.z.n = e.z.n := by
  unfold En.adv
  split
  · show (act0 k e.z).2.n = _
    unfold act0
    split <;> rfl
  · rfl
theorem actTo_zn (t : Int) (z : KS) : (actTo t z).2.n ≤ z.n + 1 := by
  unfold actTo
  split
  · show z.n ≤ _; omega
  · show (if t = z.v then z.n else z.n + 1) ≤ _
    split <;> omega
theorem act4_zn (z : KS) : (act4 z).2.n ≤ z.n + 1 := by
  unfold act4
  split
  · show (if z.c = z.q then z.n else z.n + 1) ≤ _
    split <;> omega
  · show z.n ≤ _; omega
theorem act3_zn (z : KS) : (act3 z).2.n ≤ z.n + 1 := by
  unfold act3
  split
  · show z.n ≤ _; omega
  · show z.n ≤ _; omega
theorem step_zn (e : En) (s : Stp) : (e.step s).2.2.z.n ≤ e.z.n + 1 := by
  obtain ⟨a, b, c⟩ := handler_z e s.cpu
  unfold En.step
  by_cases q1 : s.kind = 1
  · rw [if_pos q1]; show (e.start s.cpu s.t).2.z.n ≤ _; rw [start_z]; omega
  rw [if_neg q1]
  by_cases q2 : s.kind = 2
  · rw [if_pos q2]; show (e.cancel s.n).2.z.n ≤ _; rw [cancel_z]; omega
  rw [if_neg q2]
  by_cases q3 : s.kind = 3
  · rw [if_pos q3]; show (e.adv s.n).2.z.n ≤ _; rw [adv_zn]; omega
  rw [if_neg q3]
  by_cases q4 : s.kind = 4
  · rw [if_pos q4, a]; omega
  rw [if_neg q4]
  by_cases q5 : s.kind = 5
  · rw [if_pos q5, b]; omega
  rw [if_neg q5]
  by_cases q6 : s.kind = 6
  · rw [if_pos q6, c]; omega
  rw [if_neg q6]
  by_cases q7 : s.kind = 7
  · rw [if_pos q7]; exact actTo_zn s.n e.z
  rw [if_neg q7]
  by_cases q8 : s.kind = 8
  · rw [if_pos q8]; exact act3_zn e.z
  rw [if_neg q8]
  by_cases q9 : s.kind = 9
  · rw [if_pos q9]; exact act4_zn e.z
  rw [if_neg q9]
  by_cases q10 : s.kind = 10
  · rw [if_pos q10]; show (e.leave s.cpu).2.z.n ≤ _; rw [leave_z]; omega
  rw [if_neg q10]
  by_cases q11 : s.kind = 11
  · rw [if_pos q11]; show (e.enter s.cpu).2.z.n ≤ _; rw [enter_z]; omega
  rw [if_neg q11]
  by_cases q12 : s.kind = 12
  · rw [if_pos q12]; show (settleF 65 e).2.z.n ≤ _; rw [settleF_z]; omega
  rw [if_neg q12]
  show e.z.n ≤ e.z.n + 1
  omega
/-- An engine that a law made: all that it touched lies from C on; m steps have been done, z of them may have changed the clock. -/
structure Ev (C : Nat) (w0 w : World) (g : Nat) (l : Loc) (e : En) (m z : Nat) : Prop where
  es : Es w l e
  ok : EnOk e
  low : Below C w0 w
  cs : C ≤ w.heap.size
  foot : ∀ k, efoot l k → C ≤ k
  m : l.m ≤ 64 * m
  z : e.z.n ≤ z
  g : l.g = g
theorem Ev.below {C : Nat} {w0 w w' : World} {g m z : Nat} {l : Loc} {e : En} (h : Ev C w0 w g l e m z) (hb : Below w.heap.size w w') : Ev C w0 w' g l e m z :=
  ⟨h.es.below hb, h.ok, h.low.trans (hb.mono h.cs), Nat.le_trans h.cs hb.size, h.foot, h.m, h.z, h.g⟩
theorem Ev.ft {C : Nat} {w0 w w' : World} {g m z : Nat} {l : Loc} {e : En} (h : Ev C w0 w g l e m z) {F : Nat → Prop} (f : Ft F w w') (hF : ∀ k, F k → ¬ efoot l k) (hC : ∀ k, F k → C ≤ k) : Ev C w0 w' g l e m z :=
  ⟨h.es.move f (fun k hk q => hF k q hk), h.ok, f.low h.low hC h.cs, Nat.le_trans h.cs f.size, h.foot, h.m, h.z, h.g⟩
theorem evdo {C : Nat} {w0 w : World} {g m z : Nat} {l : Loc} {e : En} (h : Ev C w0 w g l e m z) (s : Stp) (hN : isI s.n) (ht : okT s.t) (hm : m ≤ 10000) (hz : z ≤ 900) :
    Calls Tryz.prog 14 #[.pointer (some ⟨g, 0, none⟩), stv s] w fun r w' => ∃ v l', r = .returned (.tuple #[v, .int .i64 (e.step s).2.1]) ∧ Rg rfd w' w.heap.size v (e.step s).1 ∧ Ev C w0 w' g l' (e.step s).2.2 (m + 1) (z + 1) ∧ Ft (efoot l) w w' ∧ (∀ k, efoot l' k → efoot l k ∨ w.heap.size ≤ k) ∧ ∀ x, v.ownBlock = some x → ¬ efoot l' x := by
  have hm2 := h.m
  have hz2 := h.z
  have := do_any h.es h.ok s hN ht (by omega) (by omega)
  rw [h.g] at this
  refine this.mono ?_
  rintro r w2 ⟨v, rfl, row, l', hE, hx, f, hv⟩
  have hx2 := hx.m
  have hsz := step_zn e s
  refine ⟨v, l', rfl, row, ⟨hE, h.ok.step s ht, f.low h.low h.foot h.cs, Nat.le_trans h.cs f.size, fun k hk => ?_, by omega, by omega, by rw [hx.g, h.g]⟩, f, hx.foot, hv⟩
  rcases hx.foot k hk with q | q
  · exact h.foot k q
  · exact Nat.le_trans h.cs q
end Go.Proofs.YtjjdkkdnlnbedaaGreat
