import Derived.Test.YtihfldjoogaolaaQu5
namespace Go.Proofs.Ytihfldjoogaolaa
open Go.RowKit Kt Qu
set_option linter.unusedVariables false

/-- A timer is due. -/
def dueT (now : Int) (t : Tmr) : Prop := t.soft < 4611686018427387903 ∧ clampZ t.soft ≤ clampZ now
instance (now : Int) (t : Tmr) : Decidable (dueT now t) := by unfold dueT; infer_instance
theorem until_due (now : Int) (t : Tmr) : 0 < untilZ now t.soft ↔ ¬ dueT now t := by
  have h1 := clampZ_bd t.soft
  have h2 := clampZ_bd now
  have h3 := clampZ_bd (clampZ t.soft - clampZ now)
  unfold untilZ subZ dueT
  by_cases h : 4611686018427387903 ≤ t.soft
  · rw [if_pos h]
    simp only [show ¬ t.soft < 4611686018427387903 by omega, false_and, not_false_eq_true, iff_true]
    split <;> omega
  · rw [if_neg h]
    simp only [show t.soft < 4611686018427387903 by omega, true_and]
    obtain ⟨d, hd⟩ : ∃ d, clampZ t.soft - clampZ now = d := ⟨_, rfl⟩
    rw [hd]
    have e : 0 < clampZ d ↔ 0 < d := by
      unfold clampZ
      split
      · omega
      · split <;> omega
    split <;> omega
theorem below_set5a {w w' : World} {b : Nat} (hb : w.heap.size = b) (h : Below b w w') (u v x y z : Value) (o : Obj) : Below b w ((((((w'.setCell ⟨b, 0, none⟩ u).setCell ⟨b, 1, none⟩ v).setCell ⟨b, 2, none⟩ x).setCell ⟨b, 3, none⟩ y).setCell ⟨b, 4, none⟩ z).alloc o) :=
  (below_set5 h (Nat.le_refl _) u v x y z).alloc (by have := (below_set5 h (Nat.le_refl _) u v x y z).size; omega) o
section
variable {w : World} {a : Qa} {n : Nat} {L : List QI}
set_option maxRecDepth 100000 in
set_option maxHeartbeats 1000000 in
/-- Where the first one is not due. -/
theorem qdue_not (q : Value) (now : Int) (w : World) (t : Tmr) (ok : Bool) (hf : ∀ w', Below w.heap.size w w' → Calls Try.prog 14 #[q] w' fun e w'' => e = .returned (.tuple #[tv t, .bool ok]) ∧ Below w'.heap.size w' w'') (hd : ok = true → ¬ dueT now t) :
    Calls Try.prog 11 #[q, .int .i64 now] w fun e w' => e = .returned (.tuple #[tv t0, .bool false]) ∧ Below w.heap.size w w' := by
  obtain ⟨B0, hB0⟩ : ∃ b, w.heap.size = b := ⟨_, rfl⟩
  obtain ⟨W0, hW0⟩ : ∃ W0, W0 = w.alloc (.cells #[.int .i64 0, .int .i64 0, .int .i64 0, .int .i64 0, .bool false] 28) := ⟨_, rfl⟩
  have b0 : Below w.heap.size w W0 := by rw [hW0]; exact one_below _ _
  have k0 : Blk W0 B0 28 #[.int .i64 0, .int .i64 0, .int .i64 0, .int .i64 0, .bool false] := by rw [hW0]; exact Blk.new_at _ _ _ hB0.symm
  have CF := hide (hf W0 b0)
  have HW := hide hW0
  have H0 := hide (And.intro k0 b0)
  clear hf b0 k0 hW0
  obtain ⟨i1, i2, i3, i4, i5⟩ := t
  unfold tv at CF
  have hu := until_due now ⟨i1, i2, i3, i4, i5⟩
  simp only at CF hu
  rw [hB0] at H0 ⊢
  obtain ⟨U, hU⟩ : ∃ U, untilZ now i3 = U := ⟨_, rfl⟩
  have CU := fun w' => hide (until_any now i3 w')
  rw [hU] at CU hu
  have HD := hide (show ok = true → 0 < U from fun h => hu.2 (hd h))
  clear hu hd hU
  go_enter Try.func11, Try.ntmps11
  go_wp2_with (go_at_call 14; refine Hid.out ?_)
  refine hide ?_
  rw [← unhide HW]
  refine (unhide CF).mono ?_
  rintro e w1 ⟨rfl, hb1⟩
  have k1 := (unhide H0).1.below hb1 (unhide H0).1.lt
  have z0 := k1.cell 0
  have z1 := k1.cell 1
  have z2 := k1.cell 2
  have z3 := k1.cell 3
  have z4 := k1.cell 4
  have zf := k1.free
  simp only [List.getElem?_toArray, List.getElem?_cons_zero, List.getElem?_cons_succ] at z0 z1 z2 z3 z4
  have hlt : B0 < w1.heap.size := k1.lt
  have HB := hide ((unhide H0).2.trans (hb1.mono (by have := (unhide H0).2.size; omega)))
  clear k1 hb1 CF HW H0
  cases ok with
  | false =>
    clear HD
    go_wp2_with fail
    exact bodyPost_ret (v := .tuple #[.agg #[.int .i64 0, .int .i64 0, .int .i64 0, .int .i64 0, .bool false], .bool false]) (by simp [results, Try.results11, go_sem, hlt, z0, z1, z2, z3, z4]) rfl ⟨rfl, below_set5a hB0 (unhide HB) _ _ _ _ _ _⟩
  | true =>
    have hU := (unhide HD) rfl
    clear HD
    go_wp2_with (go_at_call 21; refine (unhide (CU _)).mono ?_; rintro e w2 ⟨rfl, rfl⟩)
    exact bodyPost_ret (v := .tuple #[.agg #[.int .i64 0, .int .i64 0, .int .i64 0, .int .i64 0, .bool false], .bool false]) (by simp [results, Try.results11, go_sem, hlt, z0, z1, z2, z3, z4]) rfl ⟨rfl, below_set5a hB0 (unhide HB) _ _ _ _ _ _⟩
theorem qdue_nil (now : Int) (w : World) : Calls Try.prog 11 #[.pointer none, .int .i64 now] w fun e w' => e = .returned (.tuple #[tv t0, .bool false]) ∧ Below w.heap.size w w' :=
  qdue_not (.pointer none) now w t0 false (fun w' _ => qfirst_nil w') (fun h => by cases h)
theorem qdue_no (h : Que w a n L) (now : Int) (hd : ∀ y R, L = y :: R → ¬ dueT now y.tm) : Calls Try.prog 11 #[.pointer (some ⟨a.q, 0, none⟩), .int .i64 now] w fun e w' => e = .returned (.tuple #[tv t0, .bool false]) ∧ Below w.heap.size w w' := by
  cases L with
  | nil => exact qdue_not _ now w t0 false (fun w' hb => qfirst_any (h.below hb)) (fun h => by cases h)
  | cons y R => exact qdue_not _ now w y.tm true (fun w' hb => qfirst_any (h.below hb)) (fun _ => hd y R rfl)
set_option maxRecDepth 100000 in
set_option maxHeartbeats 1000000 in
theorem qdue_ok (y : QI) (R : List QI) (h : Que w a n (y :: R)) (now : Int) (hd : dueT now y.tm) : Calls Try.prog 11 #[.pointer (some ⟨a.q, 0, none⟩), .int .i64 now] w fun e w' => e = .returned (.tuple #[tv y.tm, .bool true]) ∧ Que w' a n R ∧ Ft a.foot w w' := by
  obtain ⟨B0, hB0⟩ : ∃ b, w.heap.size = b := ⟨_, rfl⟩
  obtain ⟨W0, hW0⟩ : ∃ W0, W0 = w.alloc (.cells #[.int .i64 0, .int .i64 0, .int .i64 0, .int .i64 0, .bool false] 28) := ⟨_, rfl⟩
  have b0 : Below w.heap.size w W0 := by rw [hW0]; exact one_below _ _
  have k0 : Blk W0 B0 28 #[.int .i64 0, .int .i64 0, .int .i64 0, .int .i64 0, .bool false] := by rw [hW0]; exact Blk.new_at _ _ _ hB0.symm
  have h0 := h.below b0
  have CF := hide (qfirst_any h0)
  rw [show fstV ((y :: R).map (·.tm)) = .tuple #[tv y.tm, .bool true] from rfl] at CF
  have CD := hide (fun w' (h' : Que w' a n (y :: R)) => qdrop_ok [] R y h')
  have HW := hide hW0
  have hlo := h.lts
  have nB0 : ¬ a.foot B0 := fun hk => by have := hlo _ hk; omega
  have H0 := hide (And.intro h0 (And.intro k0 (And.intro b0 nB0)))
  have hu := until_due now y.tm
  obtain ⟨yn, yu, ⟨i1, i2, i3, i4, i5⟩⟩ := y
  simp only [List.nil_append, tv] at CF CD hu ⊢
  obtain ⟨U, hU⟩ : ∃ U, untilZ now i3 = U := ⟨_, rfl⟩
  have CU := fun w' => hide (until_any now i3 w')
  rw [hU] at CU hu
  have hU0 : ¬ 0 < U := fun hh => (hu.1 hh) hd
  clear hu hd hU h b0 k0 h0 hW0 hlo nB0
  go_enter Try.func11, Try.ntmps11
  go_wp2_with (go_at_call 14; refine Hid.out ?_)
  refine hide ?_
  rw [← unhide HW]
  refine (unhide CF).mono ?_
  rintro e w1 ⟨rfl, hb1⟩
  obtain ⟨h0, k0, b0, nB0⟩ := unhide H0
  obtain ⟨W2, hW2⟩ : ∃ W2, W2 = w1.alloc (.cells #[.int .i64 i1, .int .i64 i2, .int .i64 i3, .int .i64 i4, .bool i5] 28) := ⟨_, rfl⟩
  have b2 : Below w1.heap.size w1 W2 := by rw [hW2]; exact one_below _ _
  have h2 := (h0.below hb1).below b2
  have k2 := (k0.below hb1 k0.lt).below b2 (k0.below hb1 k0.lt).lt
  have CD2 := hide ((unhide CD) W2 h2)
  have H2 := hide (And.intro h2 (And.intro k2 (And.intro ((b0.trans (hb1.mono b0.size)).trans (b2.mono (Nat.le_trans b0.size hb1.size))) nB0)))
  have HW2 := hide hW2
  clear h0 k0 b0 nB0 b2 h2 k2 hW2 hb1 CF CD H0 HW
  go_wp2_with (first | (go_at_call 21; refine (unhide (CU _)).mono ?_; rintro e w2 ⟨rfl, rfl⟩) | (go_at_call 10; refine Hid.out ?_))
  refine hide ?_
  rw [← unhide HW2]
  refine (unhide CD2).mono ?_
  rintro e w3 ⟨rfl, h3, f3⟩
  obtain ⟨h2, k2, b2, nB0⟩ := unhide H2
  have k3 := k2.ft f3 nB0
  have z0 := k3.cell 0
  have z1 := k3.cell 1
  have z2 := k3.cell 2
  have z3 := k3.cell 3
  have z4 := k3.cell 4
  have zf := k3.free
  simp only [List.getElem?_toArray, List.getElem?_cons_zero, List.getElem?_cons_succ] at z0 z1 z2 z3 z4
  have HFIN := hide (And.intro h3 (And.intro ((Ft.of_below a.foot b2).trans f3) nB0))
  clear h2 k2 b2 nB0 k3 h3 f3 H2 CD2 HW2
  go_wp2_with fail
  exact bodyPost_ret (v := .tuple #[.agg #[.int .i64 i1, .int .i64 i2, .int .i64 i3, .int .i64 i4, .bool i5], .bool true]) (by simp [results, Try.results11, go_sem, z0, z1, z2, z3, z4]) rfl ⟨rfl, (unhide HFIN).1.ft (ft_set5b _ _ _ _ _ _ _) (fun k hk e => (unhide HFIN).2.2 (e ▸ hk)), ft_set5 (unhide HFIN).2.1 (by omega) _ _ _ _ _⟩
end
end Go.Proofs.Ytihfldjoogaolaa
