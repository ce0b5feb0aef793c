import Derived.Test.YtjjdkkdnlnbedaaGreatQueB
namespace Go.Proofs.YtjjdkkdnlnbedaaGreat
open Go.RowKit Kt Qu
set_option linter.unusedVariables false

/-- The first of a row, if there is one. -/
def fstV : List Tmr → Value
  | [] => .tuple #[tv t0, .bool false]
  | t :: _ => .tuple #[tv t, .bool true]
theorem hkHeld {W : World} {b : Nat} {t : TypeId} {cs : Array Value} (h : Blk W b t cs) (j : Nat) (v : Value) (hj : cs[j]? = some v) : ∀ w', Below W.heap.size W w' → w'.cell? ⟨b, j, none⟩ = some v := fun w' hb => by
  rw [(h.below hb h.lt).cell]; exact hj
theorem hkFree {W : World} {b : Nat} {t : TypeId} {cs : Array Value} (h : Blk W b t cs) (j : Nat) : ∀ w', Below W.heap.size W w' → w'.frozen? ⟨b, j, none⟩ = false := fun w' hb => (h.below hb h.lt).free j
theorem below_set5 {B : Nat} {w w' : World} {b : Nat} (h : Below B w w') (hb : B ≤ b) (u v x y z : Value) : Below B w (((((w'.setCell ⟨b, 0, none⟩ u).setCell ⟨b, 1, none⟩ v).setCell ⟨b, 2, none⟩ x).setCell ⟨b, 3, none⟩ y).setCell ⟨b, 4, none⟩ z) :=
  ((((h.setCell (p := ⟨b, 0, none⟩) hb u).setCell (p := ⟨b, 1, none⟩) hb v).setCell (p := ⟨b, 2, none⟩) hb x).setCell (p := ⟨b, 3, none⟩) hb y).setCell (p := ⟨b, 4, none⟩) hb z
section
variable {w : World} {a : Qa} {n : Nat} {L : List QI}
theorem qfirst_nil (w : World) : Calls Tryz.prog 102 #[.pointer none] w fun e w' => e = .returned (fstV []) ∧ Below w.heap.size w w' := by
  obtain ⟨B0, hB0⟩ : ∃ b, w.heap.size = b := ⟨_, rfl⟩
  have k0 : Blk (w.alloc (.cells #[.int .i64 0, .int .i64 0, .int .i64 0, .int .i64 0, .bool false] 35)) B0 35 #[.int .i64 0, .int .i64 0, .int .i64 0, .int .i64 0, .bool false] := Blk.new_at _ _ _ hB0.symm
  have z0 := k0.cell 0
  have z1 := k0.cell 1
  have z2 := k0.cell 2
  have z3 := k0.cell 3
  have z4 := k0.cell 4
  have zf := k0.free
  simp only [List.getElem?_toArray, List.getElem?_cons_zero, List.getElem?_cons_succ] at z0 z1 z2 z3 z4
  have HB := hide (one_below w (.cells #[.int .i64 0, .int .i64 0, .int .i64 0, .int .i64 0, .bool false] 35))
  rw [hB0] at HB ⊢
  obtain ⟨V, hV⟩ : ∃ V, fstV [] = V := ⟨_, rfl⟩
  rw [hV]
  have HV := hide hV
  clear k0 hV
  go_enter Tryz.func102, Tryz.ntmps102
  go_wp2
  exact bodyPost_ret (v := .tuple #[.agg #[.int .i64 0, .int .i64 0, .int .i64 0, .int .i64 0, .bool false], .bool false]) (by simp [results, Tryz.results102, go_sem, z0, z1, z2, z3, z4]) rfl ⟨by rw [← unhide HV]; rfl, unhide HB⟩
set_option maxRecDepth 100000 in
set_option maxHeartbeats 1000000 in
theorem qfirst_any (h : Que w a n L) : Calls Tryz.prog 102 #[.pointer (some ⟨a.q, 0, none⟩)] w fun e w' => e = .returned (fstV (L.map (·.tm))) ∧ Below w.heap.size w w' := by
  obtain ⟨B0, hB0⟩ : ∃ b, w.heap.size = b := ⟨_, rfl⟩
  obtain ⟨W0, hW0⟩ : ∃ W0, W0 = w.alloc (.cells #[.int .i64 0, .int .i64 0, .int .i64 0, .int .i64 0, .bool false] 35) := ⟨_, rfl⟩
  have b0 : Below w.heap.size w W0 := by rw [hW0]; exact one_below _ _
  have k0 : Blk W0 B0 35 #[.int .i64 0, .int .i64 0, .int .i64 0, .int .i64 0, .bool false] := by rw [hW0]; exact Blk.new_at _ _ _ hB0.symm
  have h0 := h.below b0
  have hc0 := h0.c0
  rw [hW0] at hc0
  obtain ⟨tf, tr, htf⟩ := h0.tre
  have CF := hide (tfirst a.t a.g 64 tf _ W0 tr)
  have HW := hide hW0
  have HX : ∃ (p u : Int) (ok : Bool) (t : Tmr), hdV (L.map QI.it) = .tuple #[.agg #[.int .i64 p, .int .i64 u], .bool ok] ∧ fstV (L.map (·.tm)) = .tuple #[tv t, .bool ok] ∧
      ∀ w', Below W0.heap.size W0 w' → (Instr.lookup 127 (.map (some a.mt)) (.agg #[.int .i64 p, .int .i64 u]) false).run Tryz.prog w' = .ok (tv t) w' := by
    cases L with
    | nil =>
      refine ⟨0, 0, false, t0, rfl, rfl, fun w' hb => ?_⟩
      exact (h0.below hb).mt.look_none keyedH Tryz.underlying127 (zeroT w') (0, 0) (keyH (isI_of (by decide) (by decide)) (isI_of (by decide) (by decide))) (tF_none (by simp)) false
    | cons y R =>
      exact ⟨y.n, y.tu, true, y.tm, rfl, rfl, fun w' hb => (h0.below hb).mt.look_some keyedH Tryz.underlying127 (zeroT w') (y.n, y.tu) (h0.keyOf (by simp)) (tF_mem h0.nd (by simp)) false⟩
  obtain ⟨p, u, ok, t, e1, e2, e3⟩ := HX
  rw [e1] at CF
  have HE := hide e2
  obtain ⟨i1, i2, i3, i4, i5⟩ := t
  have H0 := hide (And.intro h0 (And.intro k0 (And.intro b0 e3)))
  clear h h0 k0 b0 tr htf e1 e2 e3 hW0
  rw [hB0]
  go_enter Tryz.func102, Tryz.ntmps102
  go_wp2_with (go_at_call 90; refine Hid.out ?_)
  refine hide ?_
  rw [← unhide HW]
  refine (unhide CF).mono ?_
  rintro e w1 ⟨rfl, hb1⟩
  obtain ⟨h0, k0, b0, e3⟩ := unhide H0
  obtain ⟨B1, hB1⟩ : ∃ b, w1.heap.size = b := ⟨_, rfl⟩
  have h1 := h0.below hb1
  have k1 := k0.below hb1 k0.lt
  obtain ⟨W2, hW2⟩ : ∃ W2, W2 = w1.alloc (.cells #[.int .i64 p, .int .i64 u] 123) := ⟨_, rfl⟩
  have b2 : Below w1.heap.size w1 W2 := by rw [hW2]; exact one_below _ _
  have h2 := h1.below b2
  have k2 := k1.below b2 k1.lt
  have kh : Blk W2 B1 123 #[.int .i64 p, .int .i64 u] := by rw [hW2]; exact Blk.new_at _ _ _ hB1.symm
  have el : (Instr.lookup 127 (.map (some a.mt)) (.agg #[.int .i64 p, .int .i64 u]) false).run Tryz.prog W2.drew = .ok (tv ⟨i1, i2, i3, i4, i5⟩) W2.drew := e3 _ ((hb1.trans (b2.mono hb1.size)).trans (below_drew (Below.refl _ _)))
  have c2 := h2.c2
  have q0 := kh.cell 0
  have q1 := kh.cell 1
  have z0 := k2.cell 0
  have z1 := k2.cell 1
  have z2 := k2.cell 2
  have z3 := k2.cell 3
  have z4 := k2.cell 4
  have zf := k2.free
  simp only [List.getElem?_toArray, List.getElem?_cons_zero, List.getElem?_cons_succ] at q0 q1 z0 z1 z2 z3 z4
  have HB := hide (show Below w.heap.size w W2 from (b0.trans (hb1.mono b0.size)).trans (b2.mono (Nat.le_trans b0.size hb1.size)))
  have HW2 := hide hW2
  unfold tv at el
  simp only at el
  clear h0 k0 b0 e3 h1 k1 hW2 b2 h2 k2 kh hb1 H0 hc0 CF
  go_wp2_with fail
  rw [← unhide HW2]
  go_region
  go_wp2_with fail
  exact bodyPost_ret (v := .tuple #[tv ⟨i1, i2, i3, i4, i5⟩, .bool ok]) (by simp [tv, results, Tryz.results102, go_sem, z0, z1, z2, z3, z4]) rfl ⟨by rw [unhide HE], by
    have hb := below_drew (unhide HB)
    rw [hB0] at hb
    exact below_set5 hb (Nat.le_refl _) _ _ _ _ _⟩
end
end Go.Proofs.YtjjdkkdnlnbedaaGreat


namespace Go.Proofs.YtjjdkkdnlnbedaaGreat
open Go.RowKit Kt Qu
set_option linter.unusedVariables false

section
variable {w : World} {a : Qa} {n : Nat} {L : List QI}
theorem qdrop_nil (w : World) (id : Int) : Calls Tryz.prog 97 #[.pointer none, .int .i64 id] w fun e w' => e = .returned (.tuple #[tv t0, .bool false]) ∧ Below w.heap.size w w' := by
  obtain ⟨B0, hB0⟩ : ∃ b, w.heap.size = b := ⟨_, rfl⟩
  have k0 : Blk (w.alloc (.cells #[.int .i64 0, .int .i64 0, .int .i64 0, .int .i64 0, .bool false] 35)) B0 35 #[.int .i64 0, .int .i64 0, .int .i64 0, .int .i64 0, .bool false] := Blk.new_at _ _ _ hB0.symm
  have z0 := k0.cell 0
  have z1 := k0.cell 1
  have z2 := k0.cell 2
  have z3 := k0.cell 3
  have z4 := k0.cell 4
  have zf := k0.free
  simp only [List.getElem?_toArray, List.getElem?_cons_zero, List.getElem?_cons_succ] at z0 z1 z2 z3 z4
  have HB := hide (one_below w (.cells #[.int .i64 0, .int .i64 0, .int .i64 0, .int .i64 0, .bool false] 35))
  rw [hB0] at HB ⊢
  have CN := fun w' => hide (qhas_nil w' id)
  clear k0
  go_enter Tryz.func97, Tryz.ntmps97
  go_wp2_with (go_at_call 107; refine (unhide (CN _)).mono ?_; rintro e w' ⟨rfl, rfl⟩)
  exact bodyPost_ret (v := .tuple #[.agg #[.int .i64 0, .int .i64 0, .int .i64 0, .int .i64 0, .bool false], .bool false]) (by simp [results, Tryz.results97, go_sem, z0, z1, z2, z3, z4]) rfl ⟨rfl, unhide HB⟩
set_option maxHeartbeats 400000 in
theorem qdrop_none (h : Que w a n L) (id : Int) (hid : isI id) (hin : id ∉ L.map (·.tm.id)) : Calls Tryz.prog 97 #[.pointer (some ⟨a.q, 0, none⟩), .int .i64 id] w fun e w' => e = .returned (.tuple #[tv t0, .bool false]) ∧ Below w.heap.size w w' := by
  obtain ⟨B0, hB0⟩ : ∃ b, w.heap.size = b := ⟨_, rfl⟩
  obtain ⟨W0, hW0⟩ : ∃ W0, W0 = w.alloc (.cells #[.int .i64 0, .int .i64 0, .int .i64 0, .int .i64 0, .bool false] 35) := ⟨_, rfl⟩
  have b0 : Below w.heap.size w W0 := by rw [hW0]; exact one_below _ _
  have k0 : Blk W0 B0 35 #[.int .i64 0, .int .i64 0, .int .i64 0, .int .i64 0, .bool false] := by rw [hW0]; exact Blk.new_at _ _ _ hB0.symm
  have CH := hide (qhas_out (h.below b0) id hid hin)
  have HW := hide hW0
  have H0 := hide (And.intro k0 b0)
  clear h k0 b0 hW0 hid hin
  rw [hB0] at H0 ⊢
  go_enter Tryz.func97, Tryz.ntmps97
  go_wp2_with (go_at_call 107; refine Hid.out ?_)
  refine hide ?_
  rw [← unhide HW]
  refine (unhide CH).mono ?_
  rintro e w1 ⟨rfl, hb1⟩
  have k1 := (unhide H0).1.below hb1 (unhide H0).1.lt
  have z0 := k1.cell 0
  have z1 := k1.cell 1
  have z2 := k1.cell 2
  have z3 := k1.cell 3
  have z4 := k1.cell 4
  have zf := k1.free
  simp only [List.getElem?_toArray, List.getElem?_cons_zero, List.getElem?_cons_succ] at z0 z1 z2 z3 z4
  have HB := hide ((unhide H0).2.trans (hb1.mono (by have := (unhide H0).2.size; omega)))
  clear k1 hb1
  go_wp2_with fail
  exact bodyPost_ret (v := .tuple #[.agg #[.int .i64 0, .int .i64 0, .int .i64 0, .int .i64 0, .bool false], .bool false]) (by simp [results, Tryz.results97, go_sem, z0, z1, z2, z3, z4]) rfl ⟨rfl, below_set5 (unhide HB) (Nat.le_refl _) _ _ _ _ _⟩
theorem ft_set5b (w : World) (b : Nat) (u v x y z : Value) : Ft (fun k => k = b) w (((((w.setCell ⟨b, 0, none⟩ u).setCell ⟨b, 1, none⟩ v).setCell ⟨b, 2, none⟩ x).setCell ⟨b, 3, none⟩ y).setCell ⟨b, 4, none⟩ z) :=
  (((((Ft.refl (fun k => k = b) w).set (k := b) (.inl rfl) 0 u).set (k := b) (.inl rfl) 1 v).set (k := b) (.inl rfl) 2 x).set (k := b) (.inl rfl) 3 y).set (k := b) (.inl rfl) 4 z
theorem ft_set5 {F : Nat → Prop} {w w' : World} {b : Nat} (h : Ft F w w') (hb : w.heap.size ≤ b) (u v x y z : Value) : Ft F w (((((w'.setCell ⟨b, 0, none⟩ u).setCell ⟨b, 1, none⟩ v).setCell ⟨b, 2, none⟩ x).setCell ⟨b, 3, none⟩ y).setCell ⟨b, 4, none⟩ z) :=
  ((((h.set (.inr hb) 0 u).set (.inr hb) 1 v).set (.inr hb) 2 x).set (.inr hb) 3 y).set (.inr hb) 4 z
set_option maxRecDepth 100000 in
set_option maxHeartbeats 1000000 in
theorem qdrop_ok (X Y : List QI) (y : QI) (h : Que w a n (X ++ y :: Y)) : Calls Tryz.prog 97 #[.pointer (some ⟨a.q, 0, none⟩), .int .i64 y.tm.id] w fun e w' => e = .returned (.tuple #[tv y.tm, .bool true]) ∧ Que w' a n (X ++ Y) ∧ Ft a.foot w w' := by
  obtain ⟨B0, hB0⟩ : ∃ b, w.heap.size = b := ⟨_, rfl⟩
  obtain ⟨W0, hW0⟩ : ∃ W0, W0 = w.alloc (.cells #[.int .i64 0, .int .i64 0, .int .i64 0, .int .i64 0, .bool false] 35) := ⟨_, rfl⟩
  have b0 : Below w.heap.size w W0 := by rw [hW0]; exact one_below _ _
  have k0 : Blk W0 B0 35 #[.int .i64 0, .int .i64 0, .int .i64 0, .int .i64 0, .bool false] := by rw [hW0]; exact Blk.new_at _ _ _ hB0.symm
  have h0 := h.below b0
  have hyL : y ∈ X ++ y :: Y := by simp
  have hid := (h.ok y hyL).1.1
  have CH := hide (qhas_in h0 y hyL)
  have HW := hide hW0
  have H0 := hide (And.intro h0 (And.intro k0 (And.intro b0 hid)))
  obtain ⟨yn, yu, ⟨i1, i2, i3, i4, i5⟩⟩ := y
  obtain ⟨y, hyd⟩ : ∃ y : QI, y = ⟨yn, yu, ⟨i1, i2, i3, i4, i5⟩⟩ := ⟨_, rfl⟩
  rw [← hyd] at H0 CH hyL ⊢
  have HYD := hide hyd
  have HYL := hide hyL
  have HLT := hide h.lts
  rw [show y.tm.id = i1 by rw [hyd], show y.tm = ⟨i1, i2, i3, i4, i5⟩ by rw [hyd]]
  rw [show y.tm.id = i1 by rw [hyd]] at CH
  clear h k0 b0 hW0 hid h0 hyd hyL
  go_enter Tryz.func97, Tryz.ntmps97
  go_wp2_with (go_at_call 107; refine Hid.out ?_)
  refine hide ?_
  rw [← unhide HW]
  refine (unhide CH).mono ?_
  rintro e w1 ⟨rfl, hb1⟩
  obtain ⟨h0, k0, b0, hid⟩ := unhide H0
  have h1 := h0.below hb1
  have k1 := k0.below hb1 k0.lt
  obtain ⟨B1, hB1⟩ : ∃ b, w1.heap.size = b := ⟨_, rfl⟩
  have c1 := h1.c1
  have l1 : (Instr.lookup 126 (.map (some a.mh)) (.int .i64 i1) false).run Tryz.prog w1 = .ok (.agg #[.int .i64 yn, .int .i64 yu]) w1 := by
    have := h1.mh.look_some keyedI Tryz.underlying126 (zeroH w1) y.tm.id (keyI hid) (hF_mem h1.nd (unhide HYL)) false
    rw [unhide HYD] at this
    exact this
  obtain ⟨W2, hW2⟩ : ∃ W2, W2 = w1.alloc (.cells #[.int .i64 yn, .int .i64 yu] 123) := ⟨_, rfl⟩
  have b2 : Below w1.heap.size w1 W2 := by rw [hW2]; exact one_below _ _
  have kh : Blk W2 B1 123 #[.int .i64 yn, .int .i64 yu] := by rw [hW2]; exact Blk.new_at _ _ _ hB1.symm
  have h2 := h1.below b2
  have k2 := k1.below b2 k1.lt
  have l2 : ∀ w', Below W2.heap.size W2 w' → (Instr.lookup 127 (.map (some a.mt)) (.agg #[.int .i64 yn, .int .i64 yu]) false).run Tryz.prog w' = .ok (.agg #[.int .i64 i1, .int .i64 i2, .int .i64 i3, .int .i64 i4, .bool i5]) w' := by
    intro w' hb
    have := (h2.below hb).mt.look_some keyedH Tryz.underlying127 (zeroT w') (y.n, y.tu) (h2.keyOf (unhide HYL)) (tF_mem h2.nd (unhide HYL)) false
    rw [unhide HYD] at this
    exact this
  have bd : Below W2.heap.size W2 W2.drew := below_drew (Below.refl _ _)
  have bo : ∀ o, Below W2.heap.size W2 (W2.alloc o).drew := fun o => below_drew (one_below _ _)
  have l3 := l2 _ bd
  have l4 := fun o => l2 _ (bo o)
  have c2 := h2.c2
  have c3 := fun o => (h2.below (bo o)).c2
  have q0 := kh.cell 0
  have q1 := kh.cell 1
  have q2 := fun o => (kh.below (bo o) kh.lt).cell 0
  have q3 := fun o => (kh.below (bo o) kh.lt).cell 1
  simp only [List.getElem?_toArray, List.getElem?_cons_zero, List.getElem?_cons_succ] at q0 q1 q2 q3
  clear l2 bd bo
  have hB1B : B0 < B1 := by rw [← hB1]; exact k1.lt
  have H2 := hide (And.intro h2 (And.intro k2 (And.intro kh (And.intro hid ((b0.trans (hb1.mono b0.size)).trans (b2.mono (Nat.le_trans b0.size hb1.size)))))))
  have HW2 := hide hW2
  clear h0 k0 b0 hid h1 k1 hb1 h2 k2 kh b2 hW2 H0 CH HW
  go_wp2_with fail
  rw [← unhide HW2]
  go_region
  obtain ⟨h2, k2, kh, hid, b2⟩ := unhide H2
  obtain ⟨B2, hB2⟩ : ∃ b, W2.heap.size = b := ⟨_, rfl⟩
  rw [hB2]
  obtain ⟨W3, hW3⟩ : ∃ W3, W3 = (W2.alloc (.cells #[.int .i64 i1, .int .i64 i2, .int .i64 i3, .int .i64 i4, .bool i5] 35)).drew := ⟨_, rfl⟩
  rw [← hW3]
  have b3 : Below W2.heap.size W2 W3 := by rw [hW3]; exact below_drew (one_below _ _)
  have h3 := h2.below b3
  have k3 := k2.below b3 k2.lt
  have kh3 := kh.below b3 kh.lt
  have kt3 : Blk W3 B2 35 #[.int .i64 i1, .int .i64 i2, .int .i64 i3, .int .i64 i4, .bool i5] := by rw [hW3]; exact Blk.new_at _ _ _ hB2.symm
  have hlo : ∀ k, a.foot k → k < w.heap.size := unhide HLT
  have nB0 : ¬ a.foot B0 := fun hk => by have := hlo _ hk; omega
  have nB1 : ¬ a.foot B1 := fun hk => by have := hlo _ hk; omega
  have nB2 : ¬ a.foot B2 := fun hk => by have := hlo _ hk; have := kh.lt; omega
  have ntg : ∀ {b}, ¬ a.foot b → ¬ a.tg b := fun hn hk => hn (Qa.tg_foot hk)
  have K0 := fun w' (hb : Ft a.tg W3 w') => hb.cell h3.c0 h3.ap.tgq
  have K1 := fun w' (hb : Ft a.tg W3 w') => hb.cell (x := ⟨B1, 0, none⟩) (v := .int .i64 yn) (kh3.cell 0) (ntg nB1)
  have K2 := fun w' (hb : Ft a.tg W3 w') => hb.cell (x := ⟨B1, 1, none⟩) (v := .int .i64 yu) (kh3.cell 1) (ntg nB1)
  have hdr : Ft a.tg W3 W3.drew := (Ft.refl _ _).drew
  obtain ⟨tf, tr, htf⟩ := h3.tre
  have CT := hide (show Calls Tryz.prog 121 #[.pointer (some ⟨a.t, 0, none⟩), .agg #[.int .i64 yn, .int .i64 yu]] W3.drew fun e w' => e = .returned (.int .i64 0) ∧ Tre w' a.t a.g 64 tf ((X ++ Y).map QI.it) ∧ Touch a.t a.g W3.drew w' from by
    rw [List.map_append, List.map_cons] at tr
    have e := unhide HYD
    have := tdrop_in a.t a.g 64 tf _ _ (QI.it y) W3.drew (tr.ft ((Ft.refl (fun _ => False) W3).drew) id id)
    rw [List.map_append]
    rw [e] at this
    exact this)
  have H3 := hide (And.intro h3 (And.intro k3 (And.intro kh3 (And.intro kt3 (And.intro hid (And.intro (b2.trans (b3.mono b2.size)) htf))))))
  have HN := hide (And.intro nB0 (And.intro nB1 nB2))
  have hB21 : B1 < B2 := by rw [← hB2]; exact kh.lt
  clear h2 k2 kh hid b2 b3 h3 k3 kh3 kt3 hlo nB0 nB1 nB2 ntg tr htf hW3 H2 HW2 l1 l3 l4 c1 c2 c3 q0 q1 q2 q3
  go_wp2_with fail
  refine wp_region_held_drew (S := (fun w' => Ft a.tg W3 w')) (by kernel_rfl) ?_ (fun hHeld => ?_)
  · (first | (with_reducible assumption))
  refine wpAnyH_take (i := 0) (oi := ?o1) (v := ?v1) ?hi1 (by kernel_rfl) (by kernel_rfl) (by kernel_rfl) ?hQ1 (Or.inl ⟨?hw1, ?hy1⟩) (by assumption) ?_
  case hi1 => (simp only [List.getElem?_toArray, List.getElem?_cons_zero]; rfl)
  case hQ1 => exact fun _ _ _ h => h
  case hw1 => rfl
  case hy1 => (intro w hSw; (try dsimp only at hSw); go_simp; (try with_reducible rfl))
  simp only [Act.put, List.setIfInBounds_toArray, List.set_cons_zero, List.set_cons_succ]
  refine wpAnyH_take (i := 1) (oi := ?o2) (v := ?v2) ?hi2 (by kernel_rfl) (by kernel_rfl) (by kernel_rfl) ?hQ2 (Or.inl ⟨?hw2, ?hy2⟩) (by assumption) ?_
  case hi2 => (simp only [List.getElem?_toArray, List.getElem?_cons_succ, List.getElem?_cons_zero]; rfl)
  case hQ2 => exact fun _ _ _ h => h
  case hw2 => rfl
  case hy2 => (intro w hSw; (try dsimp only at hSw); go_simp; (try with_reducible rfl))
  simp only [Act.put, List.setIfInBounds_toArray, List.set_cons_zero, List.set_cons_succ]
  refine wpAnyH_take (i := 2) (oi := ?o3) (v := ?v3) ?hi3 (by kernel_rfl) (by kernel_rfl) (by kernel_rfl) ?hQ3 (Or.inl ⟨?hw3, ?hy3⟩) (by assumption) ?_
  case hi3 => (simp only [List.getElem?_toArray, List.getElem?_cons_succ, List.getElem?_cons_zero]; rfl)
  case hQ3 => exact fun _ _ _ h => h
  case hw3 => rfl
  case hy3 => (intro w hSw; (try dsimp only at hSw); go_simp; (try with_reducible rfl))
  simp only [Act.put, List.setIfInBounds_toArray, List.set_cons_zero, List.set_cons_succ]
  refine wpAnyH_take (i := 3) (oi := ?o4) (v := ?v4) ?hi4 (by kernel_rfl) (by kernel_rfl) (by kernel_rfl) ?hQ4 (Or.inl ⟨?hw4, ?hy4⟩) (by assumption) ?_
  case hi4 => (simp only [List.getElem?_toArray, List.getElem?_cons_succ, List.getElem?_cons_zero]; rfl)
  case hQ4 => exact fun _ _ _ h => h
  case hw4 => rfl
  case hy4 => (intro w hSw; (try dsimp only at hSw); go_simp; (try with_reducible rfl))
  simp only [Act.put, List.setIfInBounds_toArray, List.set_cons_zero, List.set_cons_succ]
  refine wpAnyH_take (i := 4) (oi := ?o5) (v := ?v5) ?hi5 (by kernel_rfl) (by kernel_rfl) (by kernel_rfl) ?hQ5 (Or.inl ⟨?hw5, ?hy5⟩) (by assumption) ?_
  case hi5 => (simp only [List.getElem?_toArray, List.getElem?_cons_succ, List.getElem?_cons_zero]; rfl)
  case hQ5 => exact fun _ _ _ h => h
  case hw5 => rfl
  case hy5 => (intro w hSw; (try dsimp only at hSw); go_simp; (try with_reducible rfl))
  simp only [Act.put, List.setIfInBounds_toArray, List.set_cons_zero, List.set_cons_succ]
  refine wpAnyH_ready (rs := [5]) (by kernel_rfl) (by simp) ?_
  refine AllReadyH.cons (o := ?o6) ?hi6 (fun K hK => ?_) AllReadyH.nil
  case hi6 => (simp only [List.getElem?_toArray, List.getElem?_cons_succ, List.getElem?_cons_zero]; rfl)
  go_simp
  (go_at_call 121; refine (unhide CT).mono ?_; rintro e w4 ⟨rfl, tr4, tt4⟩; have hbq := Ft.trans hdr (Ft.of_touch (F := a.tg) tt4 (.inl rfl) (.inr rfl)))
  refine hK.out _ _ ?_ (fun hHeld => ?_)
  · (first | (with_reducible assumption))
  clear hK K
  refine wpAnyH_done (by kernel_rfl) ?_ _
  obtain ⟨h3, k3, kh3, kt3, hid, b3, htf⟩ := unhide H3
  obtain ⟨nB0, nB1, nB2⟩ := unhide HN
  have ntg : ∀ {b}, ¬ a.foot b → ¬ a.tg b := fun hn hk => hn (Qa.tg_foot hk)
  have kq4 := h3.blk.ft hbq h3.ap.tgq
  have mh4 := h3.mh.ft hbq h3.ap.tgh
  have mt4 := h3.mt.ft hbq h3.ap.tgm
  have k4 := k3.ft hbq (ntg nB0)
  have kh4 := kh3.ft hbq (ntg nB1)
  have kt4 := kt3.ft hbq (ntg nB2)
  obtain ⟨w5, e1, g1, r1⟩ := mh4.del keyedI Tryz.underlying126 ik_inj i1 (keyI (by have := hid; rw [unhide HYD] at this; exact this)) 0
  have f5 : Ft a.foot w4 w5 := (Ft.refl _ _).grown r1 (fun g e => by cases e; exact .inl (.inr (.inr (.inr (.inl rfl)))))
  have f5m : Ft (fun k => k = a.mh) w4 w5 := (Ft.refl _ _).grown r1 (fun g e => by cases e; exact .inl rfl)
  have kq5 := kq4.ft f5m h3.ap.qh
  have mt5 := mt4.ft f5m h3.ap.hm.symm
  have k5 := k4.ft f5 nB0
  have kh5 := kh4.ft f5 nB1
  have kt5 := kt4.ft f5 nB2
  have hyL := unhide HYL
  have hkey := h3.keyOf hyL
  rw [unhide HYD] at hkey
  obtain ⟨w6, e2, g2, r2⟩ := (mt5.below (below_drew (Below.refl w5.heap.size w5)) mt5.lt).del keyedH Tryz.underlying127 hk_inj (yn, yu) hkey 0
  have f6 : Ft a.foot w5 w6 := (Ft.refl _ _).drew.grown r2 (fun g e => by cases e; exact .inl (.inr (.inr (.inr (.inr rfl)))))
  have f6m : Ft (fun k => k = a.mt) w5 w6 := (Ft.refl _ _).drew.grown r2 (fun g e => by cases e; exact .inl rfl)
  have k6 := k5.ft f6 nB0
  have kt6 := kt5.ft f6 nB2
  have hfull : Que w6 a n (X ++ Y) := by
    have hlen : (X ++ y :: Y).length - 1 = (X ++ Y).length := by simp only [List.length_append, List.length_cons]; omega
    refine ⟨kq5.ft f6m h3.ap.qm, ⟨tf, (tr4.ft f5m h3.ap.th h3.ap.gh).ft f6m h3.ap.tm h3.ap.gm, htf⟩, ?_, ?_, h3.nd.del, fun z hz => h3.ok z ?_, h3.ap, h3.nb⟩
    · have := g1.ft f6m h3.ap.hm
      have e : hF (X ++ y :: Y) i1 = some (y.n, y.tu) := by
        have := hF_mem h3.nd hyL
        rw [show y.tm.id = i1 by rw [unhide HYD]] at this
        exact this
      rw [e, Option.isSome_some, if_pos rfl, hlen] at this
      rw [← hF_del_split h3.nd, show y.tm.id = i1 by rw [unhide HYD]]
      exact this
    · have e : tF (X ++ y :: Y) (yn, yu) = some y.tm := by
        have := tF_mem h3.nd hyL
        rw [show (y.n, y.tu) = (yn, yu) by rw [unhide HYD]] at this
        exact this
      rw [e, Option.isSome_some, if_pos rfl, hlen] at g2
      rw [← tF_del_split h3.nd, show (y.n, y.tu) = (yn, yu) by rw [unhide HYD]]
      exact g2
    · rcases List.mem_append.1 hz with hz | hz
      · simp [hz]
      · simp [hz]
  have hfin : Ft a.foot w w6 := (Ft.of_below _ b3).trans (((hbq.mono fun k hk => Qa.tg_foot hk).trans f5).trans f6)
  have HFIN := hide (And.intro hfull (And.intro hfin nB0))
  have d1 := kq4.cell 1
  have d2 := kq5.cell 2
  have x0 := kh5.cell 0
  have x1 := kh5.cell 1
  have y0 := kt6.cell 0
  have y1 := kt6.cell 1
  have y2 := kt6.cell 2
  have y3 := kt6.cell 3
  have y4 := kt6.cell 4
  have z0 := k6.cell 0
  have z1 := k6.cell 1
  have z2 := k6.cell 2
  have z3 := k6.cell 3
  have z4 := k6.cell 4
  have zf := k6.free
  simp only [List.getElem?_toArray, List.getElem?_cons_zero, List.getElem?_cons_succ] at d1 d2 x0 x1 y0 y1 y2 y3 y4 z0 z1 z2 z3 z4
  simp only [ik, hk] at e1 e2
  clear h3 k3 kh3 kt3 hid b3 htf nB0 nB1 nB2 ntg kq4 mh4 mt4 k4 kh4 kt4 g1 r1 f5 f5m kq5 mt5 k5 kh5 kt5 hyL hkey g2 r2 f6 f6m k6 kt6 hfull hfin tr4 tt4 hbq hdr K0 K1 K2
  go_wp2_with fail
  go_region
  go_wp2_with fail
  exact bodyPost_ret (v := .tuple #[.agg #[.int .i64 i1, .int .i64 i2, .int .i64 i3, .int .i64 i4, .bool i5], .bool true]) (by simp [results, Tryz.results97, go_sem, z0, z1, z2, z3, z4]) rfl ⟨rfl, (unhide HFIN).1.ft (ft_set5b _ _ _ _ _ _ _) (fun k hk e => (unhide HFIN).2.2 (e ▸ hk)), ft_set5 (unhide HFIN).2.1 (by omega) _ _ _ _ _⟩
end
end Go.Proofs.YtjjdkkdnlnbedaaGreat


namespace Go.Proofs.YtjjdkkdnlnbedaaGreat
open Go.RowKit Kt Qu
set_option linter.unusedVariables false

/-- A timer is due. -/
def dueT (now : Int) (t : Tmr) : Prop := t.soft < 4611686018427387903 ∧ clampZ t.soft ≤ clampZ now
instance (now : Int) (t : Tmr) : Decidable (dueT now t) := by unfold dueT; infer_instance
theorem until_due (now : Int) (t : Tmr) : 0 < untilZ now t.soft ↔ ¬ dueT now t := by
  have h1 := clampZ_bd t.soft
  have h2 := clampZ_bd now
  have h3 := clampZ_bd (clampZ t.soft - clampZ now)
  unfold untilZ subZ dueT
  by_cases h : 4611686018427387903 ≤ t.soft
  · rw [if_pos h]
    simp only [show ¬ t.soft < 4611686018427387903 by omega, false_and, not_false_eq_true, iff_true]
    split <;> omega
  · rw [if_neg h]
    simp only [show t.soft < 4611686018427387903 by omega, true_and]
    obtain ⟨d, hd⟩ : ∃ d, clampZ t.soft - clampZ now = d := ⟨_, rfl⟩
    rw [hd]
    have e : 0 < clampZ d ↔ 0 < d := by
      unfold clampZ
      split
      · omega
      · split <;> omega
    split <;> omega
theorem below_set5a {w w' : World} {b : Nat} (hb : w.heap.size = b) (h : Below b w w') (u v x y z : Value) (o : Obj) : Below b w ((((((w'.setCell ⟨b, 0, none⟩ u).setCell ⟨b, 1, none⟩ v).setCell ⟨b, 2, none⟩ x).setCell ⟨b, 3, none⟩ y).setCell ⟨b, 4, none⟩ z).alloc o) :=
  (below_set5 h (Nat.le_refl _) u v x y z).alloc (by have := (below_set5 h (Nat.le_refl _) u v x y z).size; omega) o
section
variable {w : World} {a : Qa} {n : Nat} {L : List QI}
set_option maxRecDepth 100000 in
set_option maxHeartbeats 1000000 in
/-- Where the first one is not due. -/
theorem qdue_not (q : Value) (now : Int) (w : World) (t : Tmr) (ok : Bool) (hf : ∀ w', Below w.heap.size w w' → Calls Tryz.prog 102 #[q] w' fun e w'' => e = .returned (.tuple #[tv t, .bool ok]) ∧ Below w'.heap.size w' w'') (hd : ok = true → ¬ dueT now t) :
    Calls Tryz.prog 123 #[q, .int .i64 now] w fun e w' => e = .returned (.tuple #[tv t0, .bool false]) ∧ Below w.heap.size w w' := by
  obtain ⟨B0, hB0⟩ : ∃ b, w.heap.size = b := ⟨_, rfl⟩
  obtain ⟨W0, hW0⟩ : ∃ W0, W0 = w.alloc (.cells #[.int .i64 0, .int .i64 0, .int .i64 0, .int .i64 0, .bool false] 35) := ⟨_, rfl⟩
  have b0 : Below w.heap.size w W0 := by rw [hW0]; exact one_below _ _
  have k0 : Blk W0 B0 35 #[.int .i64 0, .int .i64 0, .int .i64 0, .int .i64 0, .bool false] := by rw [hW0]; exact Blk.new_at _ _ _ hB0.symm
  have CF := hide (hf W0 b0)
  have HW := hide hW0
  have H0 := hide (And.intro k0 b0)
  clear hf b0 k0 hW0
  obtain ⟨i1, i2, i3, i4, i5⟩ := t
  unfold tv at CF
  have hu := until_due now ⟨i1, i2, i3, i4, i5⟩
  simp only at CF hu
  rw [hB0] at H0 ⊢
  obtain ⟨U, hU⟩ : ∃ U, untilZ now i3 = U := ⟨_, rfl⟩
  have CU := fun w' => hide (until_any now i3 w')
  rw [hU] at CU hu
  have HD := hide (show ok = true → 0 < U from fun h => hu.2 (hd h))
  clear hu hd hU
  go_enter Tryz.func123, Tryz.ntmps123
  go_wp2_with (go_at_call 102; refine Hid.out ?_)
  refine hide ?_
  rw [← unhide HW]
  refine (unhide CF).mono ?_
  rintro e w1 ⟨rfl, hb1⟩
  have k1 := (unhide H0).1.below hb1 (unhide H0).1.lt
  have z0 := k1.cell 0
  have z1 := k1.cell 1
  have z2 := k1.cell 2
  have z3 := k1.cell 3
  have z4 := k1.cell 4
  have zf := k1.free
  simp only [List.getElem?_toArray, List.getElem?_cons_zero, List.getElem?_cons_succ] at z0 z1 z2 z3 z4
  have hlt : B0 < w1.heap.size := k1.lt
  have HB := hide ((unhide H0).2.trans (hb1.mono (by have := (unhide H0).2.size; omega)))
  clear k1 hb1 CF HW H0
  cases ok with
  | false =>
    clear HD
    go_wp2_with fail
    exact bodyPost_ret (v := .tuple #[.agg #[.int .i64 0, .int .i64 0, .int .i64 0, .int .i64 0, .bool false], .bool false]) (by simp [results, Tryz.results123, go_sem, hlt, z0, z1, z2, z3, z4]) rfl ⟨rfl, below_set5a hB0 (unhide HB) _ _ _ _ _ _⟩
  | true =>
    have hU := (unhide HD) rfl
    clear HD
    go_wp2_with (go_at_call 103; refine (unhide (CU _)).mono ?_; rintro e w2 ⟨rfl, rfl⟩)
    exact bodyPost_ret (v := .tuple #[.agg #[.int .i64 0, .int .i64 0, .int .i64 0, .int .i64 0, .bool false], .bool false]) (by simp [results, Tryz.results123, go_sem, hlt, z0, z1, z2, z3, z4]) rfl ⟨rfl, below_set5a hB0 (unhide HB) _ _ _ _ _ _⟩
theorem qdue_nil (now : Int) (w : World) : Calls Tryz.prog 123 #[.pointer none, .int .i64 now] w fun e w' => e = .returned (.tuple #[tv t0, .bool false]) ∧ Below w.heap.size w w' :=
  qdue_not (.pointer none) now w t0 false (fun w' _ => qfirst_nil w') (fun h => by cases h)
theorem qdue_no (h : Que w a n L) (now : Int) (hd : ∀ y R, L = y :: R → ¬ dueT now y.tm) : Calls Tryz.prog 123 #[.pointer (some ⟨a.q, 0, none⟩), .int .i64 now] w fun e w' => e = .returned (.tuple #[tv t0, .bool false]) ∧ Below w.heap.size w w' := by
  cases L with
  | nil => exact qdue_not _ now w t0 false (fun w' hb => qfirst_any (h.below hb)) (fun h => by cases h)
  | cons y R => exact qdue_not _ now w y.tm true (fun w' hb => qfirst_any (h.below hb)) (fun _ => hd y R rfl)
set_option maxRecDepth 100000 in
set_option maxHeartbeats 1000000 in
theorem qdue_ok (y : QI) (R : List QI) (h : Que w a n (y :: R)) (now : Int) (hd : dueT now y.tm) : Calls Tryz.prog 123 #[.pointer (some ⟨a.q, 0, none⟩), .int .i64 now] w fun e w' => e = .returned (.tuple #[tv y.tm, .bool true]) ∧ Que w' a n R ∧ Ft a.foot w w' := by
  obtain ⟨B0, hB0⟩ : ∃ b, w.heap.size = b := ⟨_, rfl⟩
  obtain ⟨W0, hW0⟩ : ∃ W0, W0 = w.alloc (.cells #[.int .i64 0, .int .i64 0, .int .i64 0, .int .i64 0, .bool false] 35) := ⟨_, rfl⟩
  have b0 : Below w.heap.size w W0 := by rw [hW0]; exact one_below _ _
  have k0 : Blk W0 B0 35 #[.int .i64 0, .int .i64 0, .int .i64 0, .int .i64 0, .bool false] := by rw [hW0]; exact Blk.new_at _ _ _ hB0.symm
  have h0 := h.below b0
  have CF := hide (qfirst_any h0)
  rw [show fstV ((y :: R).map (·.tm)) = .tuple #[tv y.tm, .bool true] from rfl] at CF
  have CD := hide (fun w' (h' : Que w' a n (y :: R)) => qdrop_ok [] R y h')
  have HW := hide hW0
  have hlo := h.lts
  have nB0 : ¬ a.foot B0 := fun hk => by have := hlo _ hk; omega
  have H0 := hide (And.intro h0 (And.intro k0 (And.intro b0 nB0)))
  have hu := until_due now y.tm
  obtain ⟨yn, yu, ⟨i1, i2, i3, i4, i5⟩⟩ := y
  simp only [List.nil_append, tv] at CF CD hu ⊢
  obtain ⟨U, hU⟩ : ∃ U, untilZ now i3 = U := ⟨_, rfl⟩
  have CU := fun w' => hide (until_any now i3 w')
  rw [hU] at CU hu
  have hU0 : ¬ 0 < U := fun hh => (hu.1 hh) hd
  clear hu hd hU h b0 k0 h0 hW0 hlo nB0
  go_enter Tryz.func123, Tryz.ntmps123
  go_wp2_with (go_at_call 102; refine Hid.out ?_)
  refine hide ?_
  rw [← unhide HW]
  refine (unhide CF).mono ?_
  rintro e w1 ⟨rfl, hb1⟩
  obtain ⟨h0, k0, b0, nB0⟩ := unhide H0
  obtain ⟨W2, hW2⟩ : ∃ W2, W2 = w1.alloc (.cells #[.int .i64 i1, .int .i64 i2, .int .i64 i3, .int .i64 i4, .bool i5] 35) := ⟨_, rfl⟩
  have b2 : Below w1.heap.size w1 W2 := by rw [hW2]; exact one_below _ _
  have h2 := (h0.below hb1).below b2
  have k2 := (k0.below hb1 k0.lt).below b2 (k0.below hb1 k0.lt).lt
  have CD2 := hide ((unhide CD) W2 h2)
  have H2 := hide (And.intro h2 (And.intro k2 (And.intro ((b0.trans (hb1.mono b0.size)).trans (b2.mono (Nat.le_trans b0.size hb1.size))) nB0)))
  have HW2 := hide hW2
  clear h0 k0 b0 nB0 b2 h2 k2 hW2 hb1 CF CD H0 HW
  go_wp2_with (first | (go_at_call 103; refine (unhide (CU _)).mono ?_; rintro e w2 ⟨rfl, rfl⟩) | (go_at_call 97; refine Hid.out ?_))
  refine hide ?_
  rw [← unhide HW2]
  refine (unhide CD2).mono ?_
  rintro e w3 ⟨rfl, h3, f3⟩
  obtain ⟨h2, k2, b2, nB0⟩ := unhide H2
  have k3 := k2.ft f3 nB0
  have z0 := k3.cell 0
  have z1 := k3.cell 1
  have z2 := k3.cell 2
  have z3 := k3.cell 3
  have z4 := k3.cell 4
  have zf := k3.free
  simp only [List.getElem?_toArray, List.getElem?_cons_zero, List.getElem?_cons_succ] at z0 z1 z2 z3 z4
  have HFIN := hide (And.intro h3 (And.intro ((Ft.of_below a.foot b2).trans f3) nB0))
  clear h2 k2 b2 nB0 k3 h3 f3 H2 CD2 HW2
  go_wp2_with fail
  exact bodyPost_ret (v := .tuple #[.agg #[.int .i64 i1, .int .i64 i2, .int .i64 i3, .int .i64 i4, .bool i5], .bool true]) (by simp [results, Tryz.results123, go_sem, z0, z1, z2, z3, z4]) rfl ⟨rfl, (unhide HFIN).1.ft (ft_set5b _ _ _ _ _ _ _) (fun k hk e => (unhide HFIN).2.2 (e ▸ hk)), ft_set5 (unhide HFIN).2.1 (by omega) _ _ _ _ _⟩
end
end Go.Proofs.YtjjdkkdnlnbedaaGreat

