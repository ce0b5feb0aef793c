import Derived.Test.YtihfldjoogaolaaTpMath6
namespace Go.Proofs.Ytihfldjoogaolaa

/-- As RB, but that a red root may have red ones below. -/
def RBw (c : Nat → Bool) : Tr → Nat → Prop
  | .nil, k => k = 0
  | .node p l r, k => if c p = true then RB c l k ∧ RB c r k else ∃ j, k = j + 1 ∧ RB c l j ∧ RB c r j
theorem rbw_node (c : Nat → Bool) (p : Nat) (l r : Tr) (k : Nat) : RBw c (.node p l r) k = (if c p = true then RB c l k ∧ RB c r k else ∃ j, k = j + 1 ∧ RB c l j ∧ RB c r j) := rfl
theorem RB.weak {c : Nat → Bool} : ∀ {t : Tr} {k : Nat}, RB c t k → RBw c t k
  | .nil, _, h => h
  | .node p l r, k, h => by
    unfold RB at h
    rw [rbw_node]
    split
    · rename_i e; rw [if_pos e] at h; exact ⟨h.2.2.1, h.2.2.2⟩
    · rename_i e; rw [if_neg e] at h; exact h
theorem RBw.strong {c : Nat → Bool} {t : Tr} {k : Nat} (h : RBw c t k) (hr : redR c t = false) : RB c t k := by
  cases t with
  | nil => exact h
  | node p l r =>
    have hp : ¬ c p = true := by have : c p = false := hr; rw [this]; simp
    rw [rbw_node, if_neg hp] at h
    unfold RB
    rw [if_neg hp]; exact h
theorem rbw_mk {c : Nat → Bool} {s : Bool} {p k : Nat} {a b : Tr} (h : RB c a k ∧ RB c b k) (hp : c p = true) : RBw c (mk s p a b) k := by
  cases s
  · show (if c p = true then _ else _)
    rw [if_pos hp]; exact h
  · show (if c p = true then _ else _)
    rw [if_pos hp]; exact ⟨h.2, h.1⟩

/-- The ways through what is at the hole have a black one less. -/
structure BlackInv (P : Nat) (st : St) (cx : Cx) (X : Tr) (j : Nat) : Prop where
  z : Z P st cx X
  rb : RBw (col st) X j
  rbc : RBC (col st) cx (j + 1)
  top : cx = .top ∨ topRed (col st) cx false = false

/-- At the root: it is black, or painted so. -/
theorem black_top {P : Nat} {st : St} {X : Tr} {j : Nat} (h : BlackInv P st .top X j) : Good P (st.paint X.root false) X ∧ (X.root = 0 → st.paint X.root false = st) := by
  have zz : X.root = 0 → st.paint X.root false = st := by
    intro e
    rw [e]
    have : setRed st.nd 0 false = st.nd := by
      funext x
      unfold setRed setAt
      by_cases q : x = 0
      · subst q
        rw [if_pos rfl]
        have := h.z.zero.red
        cases hx : st.nd 0 with
        | mk a b c d e f g => rw [hx] at this; simp only at this; rw [this]
      · rw [if_neg q]
    unfold St.paint
    rw [this]
  refine ⟨?_, zz⟩
  cases X with
  | nil =>
    rw [zz rfl]
    exact ⟨h.z, ⟨j, h.rb⟩, rfl⟩
  | node p l r =>
    have p0 : p ≠ 0 := h.z.sh.1
    have hnd := (nodup_mk (s := false)).1 h.z.nd.nt
    have kl : ∀ x ∈ l.list, col (st.paint p false) x = col st x := fun x hx => by rw [col_paint]; exact paint_other _ _ _ _ (fun e => hnd.2.2.1 (e ▸ hx))
    have kr : ∀ x ∈ r.list, col (st.paint p false) x = col st x := fun x hx => by rw [col_paint]; exact paint_other _ _ _ _ (fun e => hnd.2.2.2.1 (e ▸ hx))
    have cp : col (st.paint p false) p = false := by rw [col_paint, paint_at]
    refine ⟨paint_z h.z p false p0, ?_, cp⟩
    have hrb := h.rb
    rw [rbw_node] at hrb
    split at hrb
    · exact ⟨j + 1, (rb_black (s := false) cp).2 ⟨j, rfl, hrb.1.congr kl, hrb.2.congr kr⟩⟩
    · obtain ⟨i, _, h1, h2⟩ := hrb
      exact ⟨i + 1, (rb_black (s := false) cp).2 ⟨i, rfl, h1.congr kl, h2.congr kr⟩⟩

/-- What is at the hole is red: painted black, all is well. -/
theorem black_paint {P : Nat} {st : St} {cx : Cx} {X : Tr} {j : Nat} (h : BlackInv P st cx X j) (hr : redR (col st) X = true) (hc : cx ≠ .top) : Good P (st.paint X.root false) (cx.plug X) := by
  cases X with
  | nil => cases hr
  | node p l r =>
    have p0 : p ≠ 0 := h.z.sh.1
    have hp : col st p = true := hr
    have hnd := (nodup_mk (s := false)).1 h.z.nd.nt
    have kl : ∀ x ∈ l.list, col (st.paint p false) x = col st x := fun x hx => by rw [col_paint]; exact paint_other _ _ _ _ (fun e => hnd.2.2.1 (e ▸ hx))
    have kr : ∀ x ∈ r.list, col (st.paint p false) x = col st x := fun x hx => by rw [col_paint]; exact paint_other _ _ _ _ (fun e => hnd.2.2.2.1 (e ▸ hx))
    have kc : ∀ x ∈ cx.places, col (st.paint p false) x = col st x := fun x hx => by rw [col_paint]; exact paint_other _ _ _ _ (fun e => h.z.nd.d p (by simp [Tr.list]) (e ▸ hx))
    have cp : col (st.paint p false) p = false := by rw [col_paint, paint_at]
    have hrb := h.rb
    rw [rbw_node, if_pos hp] at hrb
    have key : RB (col (st.paint p false)) (.node p l r) (j + 1) := (rb_black (s := false) cp).2 ⟨j, rfl, hrb.1.congr kl, hrb.2.congr kr⟩
    refine ⟨(z_top _ _).1 (paint_z h.z p false p0), rb_plug key (h.rbc.congr kc) (Or.inl cp), ?_⟩
    show redR _ (cx.plug _) = false
    rw [redR_plug]
    cases cx with
    | top => exact absurd rfl hc
    | fr s q sib up =>
      show topRed (col (st.paint p false)) up (col (st.paint p false) q) = false
      have ht := top_of_fr h.top
      rw [kc q (by simp [Cx.places]), topRed_congr (fun x hx => kc x (by simp [Cx.places, hx]))]
      exact ht

theorem sib_node {c : Nat → Bool} {sib : Tr} {j : Nat} (h : RB c sib (j + 1)) (s : Bool) : ∃ b N F, sib = mk s b N F := by
  cases sib with
  | nil => cases h
  | node b l r => cases s
                  · exact ⟨b, l, r, rfl⟩
                  · exact ⟨b, r, l, rfl⟩

/-- Who stands apart, round a hole with a sibling of two children. -/
theorem apart2 {P : Nat} {st : St} {s : Bool} {p b : Nat} {X N F : Tr} {cx : Cx} (h : Z P st cx (mk s p X (mk s b N F))) :
    p ≠ b ∧ p ∉ X.list ∧ p ∉ N.list ∧ p ∉ F.list ∧ b ∉ X.list ∧ b ∉ N.list ∧ b ∉ F.list ∧ p ∉ cx.places ∧ b ∉ cx.places ∧
    (∀ x ∈ X.list, x ∉ N.list ∧ x ∉ F.list ∧ x ∉ cx.places) ∧ (∀ x ∈ N.list, x ∉ F.list ∧ x ∉ cx.places) ∧ (∀ x ∈ F.list, x ∉ cx.places) ∧ p ≠ 0 ∧ b ≠ 0 := by
  obtain ⟨q1, q2, q3, q4, q5⟩ := nodup_mk.1 h.nd.nt
  obtain ⟨r1, r2, r3, r4, r5⟩ := nodup_mk.1 q2
  have hd := h.nd.d
  obtain ⟨p0, _, _, _, _, sM⟩ := sh_mk.1 h.sh
  obtain ⟨b0, _⟩ := sh_mk.1 sM
  refine ⟨fun e => q4 (mem_mk.2 (Or.inl e)), q3, fun e => q4 (mem_mk.2 (Or.inr (Or.inl e))), fun e => q4 (mem_mk.2 (Or.inr (Or.inr e))), fun e => q5 b e (mem_mk.2 (Or.inl rfl)), r3, r4, hd p (mem_mk.2 (Or.inl rfl)), hd b (mem_mk.2 (Or.inr (Or.inr (mem_mk.2 (Or.inl rfl))))),
    fun x hx => ⟨fun e => q5 x hx (mem_mk.2 (Or.inr (Or.inl e))), fun e => q5 x hx (mem_mk.2 (Or.inr (Or.inr e))), hd x (mem_mk.2 (Or.inr (Or.inl hx)))⟩,
    fun x hx => ⟨r5 x hx, hd x (mem_mk.2 (Or.inr (Or.inr (mem_mk.2 (Or.inr (Or.inl hx))))))⟩, fun x hx => hd x (mem_mk.2 (Or.inr (Or.inr (mem_mk.2 (Or.inr (Or.inr hx)))))), p0, b0⟩

/-- The sibling is red: two are painted, the parent goes down, and a black sibling is there. -/
theorem black_red {P : Nat} {st : St} {s : Bool} {p b : Nat} {X N F : Tr} {cx : Cx} {j : Nat} (h : BlackInv P st (.fr s p (mk s b N F) cx) X j) (hb : col st b = true) :
    Z P ((st.paint p true).paint b false) cx (mk s p X (mk s b N F)) ∧ BlackInv P (((st.paint p true).paint b false).rot p s) (.fr s p N (.fr s b F cx)) X j := by
  have hz := z_move.2 h.z
  obtain ⟨pb, pX, pN, pF, bX, bN, bF, pc, bc, aX, aN, aF, p0, b0⟩ := apart2 hz
  obtain ⟨h1, h2⟩ := h.rbc
  have hpb : col st p = false := by
    by_cases e : col st p = true
    · rw [if_pos e, redR_mk, hb] at h2; cases h2.1
    · simpa using e
  rw [if_neg (by rw [hpb]; simp)] at h2
  obtain ⟨n1, n2, n3, n4⟩ := (rb_red hb).1 h1
  have hcol : ∀ x, x ≠ p → x ≠ b → col ((st.paint p true).paint b false) x = col st x := by
    intro x e1 e2
    rw [col_paint, paint_other _ _ _ _ e2, col_paint, paint_other _ _ _ _ e1]
  have cp : col ((st.paint p true).paint b false) p = true := by rw [col_paint, paint_other _ _ _ _ pb, col_paint, paint_at]
  have cb : col ((st.paint p true).paint b false) b = false := by rw [col_paint, paint_at]
  have kX : ∀ x ∈ X.list, col ((st.paint p true).paint b false) x = col st x := fun x hx => hcol x (fun e => pX (e ▸ hx)) (fun e => bX (e ▸ hx))
  have kN : ∀ x ∈ N.list, col ((st.paint p true).paint b false) x = col st x := fun x hx => hcol x (fun e => pN (e ▸ hx)) (fun e => bN (e ▸ hx))
  have kF : ∀ x ∈ F.list, col ((st.paint p true).paint b false) x = col st x := fun x hx => hcol x (fun e => pF (e ▸ hx)) (fun e => bF (e ▸ hx))
  have kc : ∀ x ∈ cx.places, col ((st.paint p true).paint b false) x = col st x := fun x hx => hcol x (fun e => pc (e ▸ hx)) (fun e => bc (e ▸ hx))
  have kz := paint_z (paint_z hz p true p0) b false b0
  refine ⟨kz, ?_⟩
  have hz2 := rot_z kz
  refine ⟨z_move.1 (z_move.1 hz2), ?_, ?_, Or.inr ?_⟩
  · rw [col_rot]
    have hrb := h.rb
    cases X with
    | nil => exact hrb
    | node q l r =>
      have e := kX q (by simp [Tr.list])
      have el : ∀ x ∈ l.list, col ((st.paint p true).paint b false) x = col st x := fun x hx => kX x (by simp [Tr.list, hx])
      have er : ∀ x ∈ r.list, col ((st.paint p true).paint b false) x = col st x := fun x hx => kX x (by simp [Tr.list, hx])
      rw [rbw_node] at hrb ⊢
      rw [e]
      split
      · rename_i q; rw [if_pos q] at hrb; exact ⟨hrb.1.congr el, hrb.2.congr er⟩
      · rename_i q; rw [if_neg q] at hrb
        obtain ⟨i, g1, g2, g3⟩ := hrb
        exact ⟨i, g1, g2.congr el, g3.congr er⟩
  · rw [col_rot]
    refine ⟨n3.congr kN, ?_⟩
    rw [if_pos cp]
    refine ⟨by rw [redR_congr kN]; exact n1, cb, n4.congr kF, ?_⟩
    rw [if_neg (by rw [cb]; simp)]
    exact h2.congr kc
  · rw [col_rot]
    show topRed _ cx (col ((st.paint p true).paint b false) b) = false
    rw [cb, topRed_congr kc]
    have ht := top_of_fr h.top
    rw [hpb] at ht
    exact ht

/-- The sibling and both that hang on it are black: it is painted red, and it goes on above. -/
theorem black_climb {P : Nat} {st : St} {s : Bool} {p b : Nat} {X N F : Tr} {cx : Cx} {j : Nat} (h : BlackInv P st (.fr s p (mk s b N F) cx) X j) (hX : redR (col st) X = false) (hb : col st b = false) (hN : redR (col st) N = false) (hF : redR (col st) F = false) :
    ∃ j', BlackInv P (st.paint b true) cx (mk s p X (mk s b N F)) j' := by
  have hz := z_move.2 h.z
  obtain ⟨pb, pX, pN, pF, bX, bN, bF, pc, bc, aX, aN, aF, p0, b0⟩ := apart2 hz
  obtain ⟨h1, h2⟩ := h.rbc
  obtain ⟨i, e, n3, n4⟩ := (rb_black hb).1 h1
  have ei : i = j := by omega
  subst ei
  have hcol : ∀ x, x ≠ b → col (st.paint b true) x = col st x := by
    intro x e2
    rw [col_paint, paint_other _ _ _ _ e2]
  have cb : col (st.paint b true) b = true := by rw [col_paint, paint_at]
  have kX : ∀ x ∈ X.list, col (st.paint b true) x = col st x := fun x hx => hcol x (fun e => bX (e ▸ hx))
  have kN : ∀ x ∈ N.list, col (st.paint b true) x = col st x := fun x hx => hcol x (fun e => bN (e ▸ hx))
  have kF : ∀ x ∈ F.list, col (st.paint b true) x = col st x := fun x hx => hcol x (fun e => bF (e ▸ hx))
  have kc : ∀ x ∈ cx.places, col (st.paint b true) x = col st x := fun x hx => hcol x (fun e => bc (e ▸ hx))
  have kS : RB (col (st.paint b true)) (mk s b N F) i := (rb_red cb).2 ⟨by rw [redR_congr kN]; exact hN, by rw [redR_congr kF]; exact hF, n3.congr kN, n4.congr kF⟩
  have rX := (h.rb.strong hX).congr kX
  have kz := paint_z hz b true b0
  have ht : cx = .top ∨ topRed (col (st.paint b true)) cx false = false := by
    have ht := top_of_fr h.top
    cases cx with
    | top => exact Or.inl rfl
    | fr s3 p3 sib3 up3 =>
      refine Or.inr ?_
      rw [topRed_congr kc]
      exact ht
  have cp := hcol p pb
  by_cases hp : col st p = true
  · rw [if_pos hp] at h2
    refine ⟨i, kz, rbw_mk ⟨rX, kS⟩ (by rw [cp]; exact hp), ?_, ht⟩
    exact h2.2.2.congr kc
  · rw [if_neg hp] at h2
    have hp' : col st p = false := by simpa using hp
    refine ⟨i + 1, kz, ((rb_black (by rw [cp]; exact hp')).2 ⟨i, rfl, rX, kS⟩).weak, h2.congr kc, ht⟩

/-- The far one is red: three are painted, and the parent goes down. -/
theorem black_far {P : Nat} {st : St} {s : Bool} {p b f : Nat} {X N F1 F2 : Tr} {cx : Cx} {j : Nat} (r : Bool) (hz : Z P st cx (mk s p X (mk s b N (mk s f F1 F2)))) (hr : r = col st p)
    (rX : RB (col st) X j) (rN : RB (col st) N j) (rF1 : RB (col st) F1 j) (rF2 : RB (col st) F2 j)
    (rbc : if col st p = true then redC (col st) cx = false ∧ RBC (col st) cx (j + 1) else RBC (col st) cx (j + 1 + 1)) (tp : topRed (col st) cx (col st p) = false) :
    Z P (((st.paint b r).paint p false).paint f false) cx (mk s p X (mk s b N (mk s f F1 F2))) ∧ Good P ((((st.paint b r).paint p false).paint f false).rot p s) (cx.plug (mk s b (mk s p X N) (mk s f F1 F2))) := by
  subst hr
  obtain ⟨pb, pX, pN, pF, bX, bN, bF, pc, bc, aX, aN, aF, p0, b0⟩ := apart2 hz
  have fm : f ∈ (mk s f F1 F2).list := mem_mk.2 (Or.inl rfl)
  have fF : f ≠ p ∧ f ≠ b := ⟨fun e => pF (e ▸ fm), fun e => bF (e ▸ fm)⟩
  obtain ⟨_, _, _, _, _, sM⟩ := sh_mk.1 hz.sh
  obtain ⟨_, _, _, _, _, sF⟩ := sh_mk.1 sM
  have f0 : f ≠ 0 := (sh_mk.1 sF).1
  obtain ⟨_, _, w1, w2, _⟩ := nodup_mk.1 ((nodup_mk.1 ((nodup_mk.1 hz.nd.nt).2.1)).2.1)
  have hcol : ∀ x, x ≠ p → x ≠ b → x ≠ f → col (((st.paint b (col st p)).paint p false).paint f false) x = col st x := by
    intro x e1 e2 e3
    rw [col_paint, paint_other _ _ _ _ e3, col_paint, paint_other _ _ _ _ e1, col_paint, paint_other _ _ _ _ e2]
  have cp : col (((st.paint b (col st p)).paint p false).paint f false) p = false := by rw [col_paint, paint_other _ _ _ _ (fun e => fF.1 e.symm), col_paint, paint_at]
  have cb : col (((st.paint b (col st p)).paint p false).paint f false) b = col st p := by rw [col_paint, paint_other _ _ _ _ (fun e => fF.2 e.symm), col_paint, paint_other _ _ _ _ (fun e => pb e.symm), col_paint, paint_at]
  have cf : col (((st.paint b (col st p)).paint p false).paint f false) f = false := by rw [col_paint, paint_at]
  have kX : ∀ x ∈ X.list, col (((st.paint b (col st p)).paint p false).paint f false) x = col st x := fun x hx => hcol x (fun e => pX (e ▸ hx)) (fun e => bX (e ▸ hx)) (fun e => (aX x hx).2.1 (e ▸ fm))
  have kN : ∀ x ∈ N.list, col (((st.paint b (col st p)).paint p false).paint f false) x = col st x := fun x hx => hcol x (fun e => pN (e ▸ hx)) (fun e => bN (e ▸ hx)) (fun e => (aN x hx).1 (e ▸ fm))
  have k1 : ∀ x ∈ F1.list, col (((st.paint b (col st p)).paint p false).paint f false) x = col st x := fun x hx => hcol x (fun e => pF (e ▸ mem_mk.2 (Or.inr (Or.inl hx)))) (fun e => bF (e ▸ mem_mk.2 (Or.inr (Or.inl hx)))) (fun e => w1 (e ▸ hx))
  have k2 : ∀ x ∈ F2.list, col (((st.paint b (col st p)).paint p false).paint f false) x = col st x := fun x hx => hcol x (fun e => pF (e ▸ mem_mk.2 (Or.inr (Or.inr hx)))) (fun e => bF (e ▸ mem_mk.2 (Or.inr (Or.inr hx)))) (fun e => w2 (e ▸ hx))
  have kc : ∀ x ∈ cx.places, col (((st.paint b (col st p)).paint p false).paint f false) x = col st x := fun x hx => hcol x (fun e => pc (e ▸ hx)) (fun e => bc (e ▸ hx)) (fun e => aF f fm (e ▸ hx))
  have kz := paint_z (paint_z (paint_z hz b (col st p) b0) p false p0) f false f0
  refine ⟨kz, ?_⟩
  have r1 : RB (col (((st.paint b (col st p)).paint p false).paint f false)) (mk s p X N) (j + 1) := (rb_black cp).2 ⟨j, rfl, rX.congr kX, rN.congr kN⟩
  have r2 : RB (col (((st.paint b (col st p)).paint p false).paint f false)) (mk s f F1 F2) (j + 1) := (rb_black cf).2 ⟨j, rfl, rF1.congr k1, rF2.congr k2⟩
  refine ⟨(z_top _ _).1 (rot_z kz), ?_, ?_⟩
  · rw [col_rot]
    by_cases hp : col st p = true
    · rw [if_pos hp] at rbc
      refine rb_plug ((rb_red (by rw [cb]; exact hp)).2 ⟨by rw [redR_mk]; exact cp, by rw [redR_mk]; exact cf, r1, r2⟩) (rbc.2.congr kc) (Or.inr (by rw [redC_congr kc]; exact rbc.1))
    · rw [if_neg hp] at rbc
      have hp' : col st p = false := by simpa using hp
      exact rb_plug ((rb_black (by rw [cb]; exact hp')).2 ⟨j + 1, rfl, r1, r2⟩) (rbc.congr kc) (Or.inl (by rw [redR_mk, cb]; exact hp'))
  · rw [col_rot, redR_plug, redR_mk, cb, topRed_congr kc]
    exact tp
end Go.Proofs.Ytihfldjoogaolaa
