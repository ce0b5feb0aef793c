import Derived.Test.YtihfldjoogaolaaQu3
namespace Go.Proofs.Ytihfldjoogaolaa
open Go.RowKit Kt Qu
set_option linter.unusedVariables false

/-- The first of a row, if there is one. -/
def fstV : List Tmr → Value
  | [] => .tuple #[tv t0, .bool false]
  | t :: _ => .tuple #[tv t, .bool true]
theorem hkHeld {W : World} {b : Nat} {t : TypeId} {cs : Array Value} (h : Blk W b t cs) (j : Nat) (v : Value) (hj : cs[j]? = some v) : ∀ w', Below W.heap.size W w' → w'.cell? ⟨b, j, none⟩ = some v := fun w' hb => by
  rw [(h.below hb h.lt).cell]; exact hj
theorem hkFree {W : World} {b : Nat} {t : TypeId} {cs : Array Value} (h : Blk W b t cs) (j : Nat) : ∀ w', Below W.heap.size W w' → w'.frozen? ⟨b, j, none⟩ = false := fun w' hb => (h.below hb h.lt).free j
theorem below_set5 {B : Nat} {w w' : World} {b : Nat} (h : Below B w w') (hb : B ≤ b) (u v x y z : Value) : Below B w (((((w'.setCell ⟨b, 0, none⟩ u).setCell ⟨b, 1, none⟩ v).setCell ⟨b, 2, none⟩ x).setCell ⟨b, 3, none⟩ y).setCell ⟨b, 4, none⟩ z) :=
  ((((h.setCell (p := ⟨b, 0, none⟩) hb u).setCell (p := ⟨b, 1, none⟩) hb v).setCell (p := ⟨b, 2, none⟩) hb x).setCell (p := ⟨b, 3, none⟩) hb y).setCell (p := ⟨b, 4, none⟩) hb z
section
variable {w : World} {a : Qa} {n : Nat} {L : List QI}
theorem qfirst_nil (w : World) : Calls Try.prog 14 #[.pointer none] w fun e w' => e = .returned (fstV []) ∧ Below w.heap.size w w' := by
  obtain ⟨B0, hB0⟩ : ∃ b, w.heap.size = b := ⟨_, rfl⟩
  have k0 : Blk (w.alloc (.cells #[.int .i64 0, .int .i64 0, .int .i64 0, .int .i64 0, .bool false] 28)) B0 28 #[.int .i64 0, .int .i64 0, .int .i64 0, .int .i64 0, .bool false] := Blk.new_at _ _ _ hB0.symm
  have z0 := k0.cell 0
  have z1 := k0.cell 1
  have z2 := k0.cell 2
  have z3 := k0.cell 3
  have z4 := k0.cell 4
  have zf := k0.free
  simp only [List.getElem?_toArray, List.getElem?_cons_zero, List.getElem?_cons_succ] at z0 z1 z2 z3 z4
  have HB := hide (one_below w (.cells #[.int .i64 0, .int .i64 0, .int .i64 0, .int .i64 0, .bool false] 28))
  rw [hB0] at HB ⊢
  obtain ⟨V, hV⟩ : ∃ V, fstV [] = V := ⟨_, rfl⟩
  rw [hV]
  have HV := hide hV
  clear k0 hV
  go_enter Try.func14, Try.ntmps14
  go_wp2
  exact bodyPost_ret (v := .tuple #[.agg #[.int .i64 0, .int .i64 0, .int .i64 0, .int .i64 0, .bool false], .bool false]) (by simp [results, Try.results14, go_sem, z0, z1, z2, z3, z4]) rfl ⟨by rw [← unhide HV]; rfl, unhide HB⟩
set_option maxRecDepth 100000 in
set_option maxHeartbeats 1000000 in
theorem qfirst_any (h : Que w a n L) : Calls Try.prog 14 #[.pointer (some ⟨a.q, 0, none⟩)] w fun e w' => e = .returned (fstV (L.map (·.tm))) ∧ Below w.heap.size w w' := by
  obtain ⟨B0, hB0⟩ : ∃ b, w.heap.size = b := ⟨_, rfl⟩
  obtain ⟨W0, hW0⟩ : ∃ W0, W0 = w.alloc (.cells #[.int .i64 0, .int .i64 0, .int .i64 0, .int .i64 0, .bool false] 28) := ⟨_, rfl⟩
  have b0 : Below w.heap.size w W0 := by rw [hW0]; exact one_below _ _
  have k0 : Blk W0 B0 28 #[.int .i64 0, .int .i64 0, .int .i64 0, .int .i64 0, .bool false] := by rw [hW0]; exact Blk.new_at _ _ _ hB0.symm
  have h0 := h.below b0
  have hc0 := h0.c0
  rw [hW0] at hc0
  obtain ⟨tf, tr, htf⟩ := h0.tre
  have CF := hide (tfirst a.t a.g 64 tf _ W0 tr)
  have HW := hide hW0
  have HX : ∃ (p u : Int) (ok : Bool) (t : Tmr), hdV (L.map QI.it) = .tuple #[.agg #[.int .i64 p, .int .i64 u], .bool ok] ∧ fstV (L.map (·.tm)) = .tuple #[tv t, .bool ok] ∧
      ∀ w', Below W0.heap.size W0 w' → (Instr.lookup 47 (.map (some a.mt)) (.agg #[.int .i64 p, .int .i64 u]) false).run Try.prog w' = .ok (tv t) w' := by
    cases L with
    | nil =>
      refine ⟨0, 0, false, t0, rfl, rfl, fun w' hb => ?_⟩
      exact (h0.below hb).mt.look_none keyedH Try.underlying47 (zeroT w') (0, 0) (keyH (isI_of (by decide) (by decide)) (isI_of (by decide) (by decide))) (tF_none (by simp)) false
    | cons y R =>
      exact ⟨y.n, y.tu, true, y.tm, rfl, rfl, fun w' hb => (h0.below hb).mt.look_some keyedH Try.underlying47 (zeroT w') (y.n, y.tu) (h0.keyOf (by simp)) (tF_mem h0.nd (by simp)) false⟩
  obtain ⟨p, u, ok, t, e1, e2, e3⟩ := HX
  rw [e1] at CF
  have HE := hide e2
  obtain ⟨i1, i2, i3, i4, i5⟩ := t
  have H0 := hide (And.intro h0 (And.intro k0 (And.intro b0 e3)))
  clear h h0 k0 b0 tr htf e1 e2 e3 hW0
  rw [hB0]
  go_enter Try.func14, Try.ntmps14
  go_wp2_with (go_at_call 22; refine Hid.out ?_)
  refine hide ?_
  rw [← unhide HW]
  refine (unhide CF).mono ?_
  rintro e w1 ⟨rfl, hb1⟩
  obtain ⟨h0, k0, b0, e3⟩ := unhide H0
  obtain ⟨B1, hB1⟩ : ∃ b, w1.heap.size = b := ⟨_, rfl⟩
  have h1 := h0.below hb1
  have k1 := k0.below hb1 k0.lt
  obtain ⟨W2, hW2⟩ : ∃ W2, W2 = w1.alloc (.cells #[.int .i64 p, .int .i64 u] 51) := ⟨_, rfl⟩
  have b2 : Below w1.heap.size w1 W2 := by rw [hW2]; exact one_below _ _
  have h2 := h1.below b2
  have k2 := k1.below b2 k1.lt
  have kh : Blk W2 B1 51 #[.int .i64 p, .int .i64 u] := by rw [hW2]; exact Blk.new_at _ _ _ hB1.symm
  have el : (Instr.lookup 47 (.map (some a.mt)) (.agg #[.int .i64 p, .int .i64 u]) false).run Try.prog W2.drew = .ok (tv ⟨i1, i2, i3, i4, i5⟩) W2.drew := e3 _ ((hb1.trans (b2.mono hb1.size)).trans (below_drew (Below.refl _ _)))
  have c2 := h2.c2
  have q0 := kh.cell 0
  have q1 := kh.cell 1
  have z0 := k2.cell 0
  have z1 := k2.cell 1
  have z2 := k2.cell 2
  have z3 := k2.cell 3
  have z4 := k2.cell 4
  have zf := k2.free
  simp only [List.getElem?_toArray, List.getElem?_cons_zero, List.getElem?_cons_succ] at q0 q1 z0 z1 z2 z3 z4
  have HB := hide (show Below w.heap.size w W2 from (b0.trans (hb1.mono b0.size)).trans (b2.mono (Nat.le_trans b0.size hb1.size)))
  have HW2 := hide hW2
  unfold tv at el
  simp only at el
  clear h0 k0 b0 e3 h1 k1 hW2 b2 h2 k2 kh hb1 H0 hc0 CF
  go_wp2_with fail
  rw [← unhide HW2]
  go_region
  go_wp2_with fail
  exact bodyPost_ret (v := .tuple #[tv ⟨i1, i2, i3, i4, i5⟩, .bool ok]) (by simp [tv, results, Try.results14, go_sem, z0, z1, z2, z3, z4]) rfl ⟨by rw [unhide HE], by
    have hb := below_drew (unhide HB)
    rw [hB0] at hb
    exact below_set5 hb (Nat.le_refl _) _ _ _ _ _⟩
end
end Go.Proofs.Ytihfldjoogaolaa
