import Derived.Test.YtihfldjoogaolaaTpMath
namespace Go.Proofs.Ytihfldjoogaolaa

theorem mem_mk {x : Nat} {s : Bool} {p : Nat} {a b : Tr} : x ∈ (mk s p a b).list ↔ x = p ∨ x ∈ a.list ∨ x ∈ b.list := by
  cases s <;> simp [mk, Tr.list]
  · constructor
    · rintro (h | h | h) <;> simp [h]
    · rintro (h | h | h) <;> simp [h]
  · constructor
    · rintro (h | h | h) <;> simp [h]
    · rintro (h | h | h) <;> simp [h]
theorem nodup_mk {s : Bool} {p : Nat} {a b : Tr} : (mk s p a b).list.Nodup ↔ a.list.Nodup ∧ b.list.Nodup ∧ p ∉ a.list ∧ p ∉ b.list ∧ ∀ x ∈ a.list, x ∉ b.list := by
  cases s
  · simp only [mk, Tr.list, List.nodup_append, List.nodup_cons, List.mem_cons, Bool.false_eq_true, if_false]
    constructor
    · rintro ⟨h1, ⟨h2, h3⟩, h4⟩
      exact ⟨h1, h3, fun h => h4 p h p (Or.inl rfl) rfl, h2, fun x hx hy => h4 x hx x (Or.inr hy) rfl⟩
    · rintro ⟨h1, h3, h5, h2, h4⟩
      refine ⟨h1, ⟨h2, h3⟩, ?_⟩
      rintro x hx y (rfl | hy) rfl
      · exact h5 hx
      · exact h4 x hx hy
  · simp only [mk, Tr.list, List.nodup_append, List.nodup_cons, List.mem_cons, if_true]
    constructor
    · rintro ⟨h1, ⟨h2, h3⟩, h4⟩
      exact ⟨h3, h1, h2, fun h => h4 p h p (Or.inl rfl) rfl, fun x hx hy => h4 x hy x (Or.inr hx) rfl⟩
    · rintro ⟨h3, h1, h2, h5, h4⟩
      refine ⟨h1, ⟨h2, h3⟩, ?_⟩
      rintro x hx y (rfl | hy) rfl
      · exact h5 hx
      · exact h4 x hy hx

/-- No place stands twice in a tree and what is round it, and all are within bounds. -/
structure ND (P : Nat) (t : Tr) (cx : Cx) : Prop where
  nt : t.list.Nodup
  nc : cx.places.Nodup
  d : ∀ x ∈ t.list, x ∉ cx.places
  bt : ∀ x ∈ t.list, x ≤ P
  bc : ∀ x ∈ cx.places, x ≤ P
theorem nd_move {P : Nat} {s : Bool} {p : Nat} {a b : Tr} {cx : Cx} : ND P (mk s p a b) cx ↔ ND P a (.fr s p b cx) := by
  constructor
  · rintro ⟨h1, h2, h3, h4, h5⟩
    obtain ⟨g1, g2, g3, g4, g5⟩ := nodup_mk.1 h1
    refine ⟨g1, ?_, ?_, fun x hx => h4 x (mem_mk.2 (Or.inr (Or.inl hx))), ?_⟩
    · simp only [Cx.places, List.nodup_cons, List.mem_append, List.nodup_append, not_or]
      exact ⟨⟨g4, h3 p (mem_mk.2 (Or.inl rfl))⟩, g2, h2, fun x hx y hy e => h3 x (mem_mk.2 (Or.inr (Or.inr hx))) (e ▸ hy)⟩
    · intro x hx
      simp only [Cx.places, List.mem_cons, List.mem_append, not_or]
      exact ⟨fun e => g3 (e ▸ hx), g5 x hx, h3 x (mem_mk.2 (Or.inr (Or.inl hx)))⟩
    · intro x hx
      simp only [Cx.places, List.mem_cons, List.mem_append] at hx
      rcases hx with rfl | hx | hx
      · exact h4 x (mem_mk.2 (Or.inl rfl))
      · exact h4 x (mem_mk.2 (Or.inr (Or.inr hx)))
      · exact h5 x hx
  · rintro ⟨h1, h2, h3, h4, h5⟩
    simp only [Cx.places, List.nodup_cons, List.mem_append, List.nodup_append, not_or] at h2
    obtain ⟨⟨q1, q2⟩, q3, q4, q5⟩ := h2
    have h3' : ∀ x ∈ a.list, x ≠ p ∧ x ∉ b.list ∧ x ∉ cx.places := by
      intro x hx
      have := h3 x hx
      simpa only [Cx.places, List.mem_cons, List.mem_append, not_or] using this
    have h5' : ∀ x, x = p ∨ x ∈ b.list ∨ x ∈ cx.places → x ≤ P := by
      intro x hx
      exact h5 x (by simpa only [Cx.places, List.mem_cons, List.mem_append] using hx)
    refine ⟨nodup_mk.2 ⟨h1, q3, fun h => (h3' p h).1 rfl, q1, fun x hx => (h3' x hx).2.1⟩, q4, ?_, ?_, fun x hx => h5' x (Or.inr (Or.inr hx))⟩
    · intro x hx
      rcases mem_mk.1 hx with rfl | h | h
      · exact q2
      · exact (h3' x h).2.2
      · exact fun hc => q5 x h x hc rfl
    · intro x hx
      rcases mem_mk.1 hx with rfl | h | h
      · exact h5' x (Or.inl rfl)
      · exact h4 x h
      · exact h5' x (Or.inr (Or.inl h))

/-- The blank place. -/
structure Blank (x : Nd) : Prop where
  filled : x.filled = false
  red : x.red = false
  up : x.up = 0
  dn : ∀ s, x.dn s = 0

/-- A tree at a place, and what is round it. -/
structure Z (P : Nat) (st : St) (cx : Cx) (t : Tr) : Prop where
  shc : ShC st.nd cx t.root
  sh : Sh st.nd t cx.par
  nd : ND P t cx
  root : st.root = cx.rootOf t.root
  zero : Blank (st.nd 0)

theorem z_move {P : Nat} {st : St} {s : Bool} {p : Nat} {a b : Tr} {cx : Cx} : Z P st cx (mk s p a b) ↔ Z P st (.fr s p b cx) a := by
  constructor
  · rintro ⟨h1, h2, h3, h4, h5⟩
    rw [mk_root] at h1 h4
    obtain ⟨g1, g2, g3, g4, g5, g6⟩ := sh_mk.1 h2
    exact ⟨⟨g1, g2, g3, g4, g6, h1⟩, g5, nd_move.1 h3, h4, h5⟩
  · rintro ⟨⟨g1, g2, g3, g4, g6, h1⟩, g5, h3, h4, h5⟩
    exact ⟨by rw [mk_root]; exact h1, sh_mk.2 ⟨g1, g2, g3, g4, g5, g6⟩, nd_move.2 h3, by rw [mk_root]; exact h4, h5⟩
theorem z_top {P : Nat} {st : St} : ∀ (cx : Cx) (t : Tr), Z P st cx t ↔ Z P st .top (cx.plug t)
  | .top, _ => Iff.rfl
  | .fr s p sib up, t => by rw [Cx.plug, ← z_top up, z_move]
theorem Z.left {P : Nat} {st : St} {cx : Cx} {p : Nat} {l r : Tr} (h : Z P st cx (.node p l r)) : Z P st (.fr false p r cx) l := (z_move (s := false)).1 h
theorem Z.right {P : Nat} {st : St} {cx : Cx} {p : Nat} {l r : Tr} (h : Z P st cx (.node p l r)) : Z P st (.fr true p l cx) r := (z_move (s := true)).1 h
theorem Z.bd {P : Nat} {st : St} {cx : Cx} {t : Tr} (h : Z P st cx t) : t.root ≤ P := by
  cases t with
  | nil => exact Nat.zero_le _
  | node p l r => exact h.nd.bt p (by simp [Tr.list])
theorem Z.par_bd {P : Nat} {st : St} {cx : Cx} {t : Tr} (h : Z P st cx t) : cx.par ≤ P := by
  cases cx with
  | top => exact Nat.zero_le _
  | fr s p sib up => exact h.nd.bc p (by simp [Cx.places])
def Cx.side : Cx → Bool
  | .top => false
  | .fr s _ _ _ => s
theorem sideOf_z {P : Nat} {st : St} {cx : Cx} {p : Nat} {l r : Tr} (h : Z P st cx (.node p l r)) : sideOf st p = cx.side := by
  have hu : (st.nd p).up = cx.par := h.sh.2.1
  have hp : p ≠ 0 := h.sh.1
  cases cx with
  | top =>
    have hu' : (st.nd p).up = 0 := hu
    clear hu
    have := h.zero.dn true
    unfold sideOf
    exact decide_eq_false (fun e => by rw [hu', this] at e; exact hp e.symm)
  | fr s q sib up =>
    have hu' : (st.nd p).up = q := hu
    clear hu
    obtain ⟨g1, g2, g3, g4, g5, g6⟩ := h.shc
    unfold sideOf
    cases s
    · refine decide_eq_false (fun e => ?_)
      have g4 : (st.nd q).dn true = sib.root := g4
      rw [hu', g4] at e
      cases sib with
      | nil => exact hp e.symm
      | node q' l' r' =>
        have e' : q' = p := e
        have := h.nd.d p (by simp [Tr.list])
        simp [Cx.places, Tr.list, e'] at this
    · have g3 : (st.nd q).dn true = p := g3
      exact decide_eq_true (by rw [hu', g3])

/-- The place that is next behind what is round. -/
def Cx.nxt : Cx → Nat
  | .top => 0
  | .fr false p _ _ => p
  | .fr true _ _ up => up.nxt
end Go.Proofs.Ytihfldjoogaolaa
