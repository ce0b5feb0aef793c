import Derived.Test.YtihfldjoogaolaaTpMath4
namespace Go.Proofs.Ytihfldjoogaolaa

/-- A tree that is whole: its links, and its colours. -/
structure Good (P : Nat) (st : St) (t : Tr) : Prop where
  z : Z P st .top t
  rb : ∃ K, RB (col st) t K
  root : redR (col st) t = false
/-- All is well, but that a red node may hang on a red one, at one place; the root is black, but if it is there. -/
structure RedInv (P : Nat) (st : St) (cx : Cx) (n : Nat) (l r : Tr) (k : Nat) : Prop where
  z : Z P st cx (.node n l r)
  red : col st n = true
  rb : RB (col st) (.node n l r) k
  rbc : RBC (col st) cx k
  top : cx = .top ∨ topRed (col st) cx false = false

theorem paint_other (c : Nat → Bool) (i x : Nat) (r : Bool) (h : x ≠ i) : paint c i r x = c x := by unfold paint; rw [if_neg h]
theorem paint_at (c : Nat → Bool) (i : Nat) (r : Bool) : paint c i r i = r := by unfold paint; rw [if_pos rfl]

theorem red_top {P : Nat} {st : St} {n k : Nat} {l r : Tr} (h : RedInv P st .top n l r k) : Good P (st.paint n false) (.node n l r) := by
  have n0 : n ≠ 0 := h.z.sh.1
  have hnd := (nodup_mk (s := false)).1 h.z.nd.nt
  refine ⟨paint_z h.z n false n0, ⟨k + 1, ?_⟩, ?_⟩
  · rw [col_paint]
    obtain ⟨_, _, h3, h4⟩ := (rb_red (s := false) h.red).1 h.rb
    refine (rb_black (s := false) (paint_at _ _ _)).2 ⟨k, rfl, h3.congr ?_, h4.congr ?_⟩
    · intro x hx; exact paint_other _ _ _ _ (fun e => hnd.2.2.1 (e ▸ hx))
    · intro x hx; exact paint_other _ _ _ _ (fun e => hnd.2.2.2.1 (e ▸ hx))
  · rw [col_paint]; exact paint_at _ _ _

theorem top_of_fr {c : Nat → Bool} {s : Bool} {p : Nat} {sib : Tr} {up : Cx} (h : Cx.fr s p sib up = .top ∨ topRed c (.fr s p sib up) false = false) : topRed c up (c p) = false := by
  rcases h with h | h
  · cases h
  · exact h

/-- The parent is black: all is well; the root is painted black, as it is. -/
theorem red_done {P : Nat} {st : St} {cx : Cx} {n k : Nat} {l r : Tr} (h : RedInv P st cx n l r k) (hc : cx ≠ .top) (hb : redC (col st) cx = false) :
    Good P (st.paint st.root false) (cx.plug (.node n l r)) ∧ st.root ∈ (cx.plug (.node n l r)).list := by
  have hz := (z_top cx _).1 h.z
  have ht : redR (col st) (cx.plug (.node n l r)) = false := by
    rw [redR_plug]
    cases cx with
    | top => exact absurd rfl hc
    | fr s p sib up =>
      show topRed (col st) up (col st p) = false
      exact top_of_fr h.top
  have hr : st.root = (cx.plug (.node n l r)).root := hz.root
  have hne : (cx.plug (.node n l r)).root ≠ 0 := by
    rw [plug_root]
    cases cx with
    | top => exact absurd rfl hc
    | fr s p sib up =>
      have : ∀ (up : Cx) (q : Nat), q ≠ 0 → ShC st.nd up q → up.rootOf q ≠ 0 := by
        intro up
        induction up with
        | top => intro q hq _; exact hq
        | fr s' p' sib' up' ih => intro q _ hs; exact ih p' hs.1 hs.2.2.2.2.2
      exact this up p h.z.shc.1 h.z.shc.2.2.2.2.2
  have hcr : col st st.root = false := by
    rw [hr]
    cases hq : cx.plug (.node n l r) with
    | nil => rw [hq] at hne; exact absurd rfl hne
    | node q a b => rw [hq] at ht; exact ht
  have hcol : col (st.paint st.root false) = col st := by
    rw [col_paint]
    funext x
    by_cases e : x = st.root
    · subst e; rw [paint_at, hcr]
    · rw [paint_other _ _ _ _ e]
  refine ⟨⟨paint_z hz _ _ (by rw [hr]; exact hne), ?_, by rw [hcol]; exact ht⟩, by rw [hr]; exact root_mem hne⟩
  rw [hcol]
  exact rb_plug h.rb h.rbc (Or.inr hb)

/-- A red parent hangs on a black node: what is round. -/
theorem red_up {P : Nat} {st : St} {s : Bool} {p : Nat} {sib : Tr} {up : Cx} {n k : Nat} {l r : Tr} (h : RedInv P st (.fr s p sib up) n l r k) (hp : col st p = true) :
    ∃ s2 g unc cx2, up = .fr s2 g unc cx2 ∧ col st g = false ∧ RB (col st) sib k ∧ redR (col st) sib = false ∧ RB (col st) unc k ∧ RBC (col st) cx2 (k + 1) ∧ (cx2 = .top ∨ topRed (col st) cx2 false = false) := by
  obtain ⟨h1, h2⟩ := h.rbc
  rw [if_pos hp] at h2
  obtain ⟨g1, g2, g3⟩ := h2
  have ht := top_of_fr h.top
  cases up with
  | top => rw [hp] at ht; cases ht
  | fr s2 g unc cx2 =>
    have hg : col st g = false := g2
    obtain ⟨q1, q2⟩ := g3
    rw [if_neg (by rw [hg]; simp)] at q2
    refine ⟨s2, g, unc, cx2, rfl, hg, h1, g1, q1, q2, ?_⟩
    cases cx2 with
    | top => exact Or.inl rfl
    | fr s3 p3 sib3 up3 => exact Or.inr ht

/-- The places of what is below a node whose parent and grandparent are named. -/
theorem apart {P : Nat} {st : St} {s1 s2 : Bool} {p g : Nat} {t sib unc : Tr} {cx2 : Cx} (h : Z P st (.fr s1 p sib (.fr s2 g unc cx2)) t) :
    p ≠ g ∧ p ∉ t.list ∧ g ∉ t.list ∧ p ∉ sib.list ∧ g ∉ sib.list ∧ p ∉ unc.list ∧ g ∉ unc.list ∧ p ∉ cx2.places ∧ g ∉ cx2.places ∧
    (∀ x ∈ t.list, x ∉ sib.list ∧ x ∉ unc.list ∧ x ∉ cx2.places) ∧ (∀ x ∈ sib.list, x ∉ unc.list ∧ x ∉ cx2.places) ∧ (∀ x ∈ unc.list, x ∉ cx2.places) := by
  have hn := h.nd
  have hd := hn.d
  have hc := hn.nc
  simp only [Cx.places, List.mem_cons, List.mem_append, not_or, List.nodup_cons, List.nodup_append] at hd hc
  obtain ⟨⟨c1, c2, c3, c4⟩, c5, ⟨⟨c6, c7⟩, c8, c9, c10⟩, c11⟩ := hc
  refine ⟨c2, fun e => (hd p e).1 rfl, fun e => (hd g e).2.2.1 rfl, c1, fun e => c11 g e g (Or.inl rfl) rfl, c3, c6, c4, c7, fun x hx => ⟨(hd x hx).2.1, (hd x hx).2.2.2.1, (hd x hx).2.2.2.2⟩, fun x hx => ⟨fun e => c11 x hx x (Or.inr (Or.inl e)) rfl, fun e => c11 x hx x (Or.inr (Or.inr e)) rfl⟩, fun x hx e => c10 x hx x e rfl⟩

/-- The uncle is red: three are painted, and it goes on two above. -/
theorem red_climb {P : Nat} {st : St} {s1 s2 : Bool} {p g : Nat} {sib unc : Tr} {cx2 : Cx} {n k : Nat} {l r : Tr} (h : RedInv P st (.fr s1 p sib (.fr s2 g unc cx2)) n l r k) (hp : col st p = true) (hu : redR (col st) unc = true) :
    ∃ l' r', RedInv P (((st.paint p false).paint unc.root false).paint g true) cx2 g l' r' (k + 1) ∧ cx2.plug (.node g l' r') = (Cx.fr s1 p sib (.fr s2 g unc cx2)).plug (.node n l r) := by
  obtain ⟨s2', g', unc', cx2', e, hg, q1, q2, q3, q4, q5⟩ := red_up h hp
  cases e
  obtain ⟨a1, a2, a3, a4, a5, a6, a7, a8, a9, a10, a11, a12⟩ := apart h.z
  have hz2 := z_move.2 (z_move.2 h.z)
  have g0 : g ≠ 0 := h.z.shc.2.2.2.2.2.1
  have p0 : p ≠ 0 := h.z.shc.1
  cases unc with
  | nil => cases hu
  | node ur ua ub =>
    have hur : col st ur = true := hu
    have ur0 : ur ≠ 0 := h.z.shc.2.2.2.2.2.2.2.2.2.1.1
    have hund : (mk false ur ua ub).list.Nodup := by
      have := h.z.nd.nc
      simp only [Cx.places, List.nodup_cons, List.nodup_append] at this
      exact this.2.2.1.2.1
    obtain ⟨_, _, ua', ub', _⟩ := nodup_mk.1 hund
    have urm : ur ∈ (Tr.node ur ua ub).list := by simp [Tr.list]
    have hpur : p ≠ ur := fun e => a6 (e ▸ urm)
    have hgur : g ≠ ur := fun e => a7 (e ▸ urm)
    have hcol : ∀ x, x ≠ p → x ≠ ur → x ≠ g → col (((st.paint p false).paint ur false).paint g true) x = col st x := by
      intro x h1 h2 h3
      rw [col_paint, paint_other _ _ _ _ h3, col_paint, paint_other _ _ _ _ h2, col_paint, paint_other _ _ _ _ h1]
    have cp : col (((st.paint p false).paint ur false).paint g true) p = false := by
      rw [col_paint, paint_other _ _ _ _ a1, col_paint, paint_other _ _ _ _ hpur, col_paint, paint_at]
    have cu : col (((st.paint p false).paint ur false).paint g true) ur = false := by
      rw [col_paint, paint_other _ _ _ _ (fun e => hgur e.symm), col_paint, paint_at]
    have cg : col (((st.paint p false).paint ur false).paint g true) g = true := by
      rw [col_paint, paint_at]
    have key : RB (col (((st.paint p false).paint ur false).paint g true)) (mk s2 g (mk s1 p (.node n l r) sib) (.node ur ua ub)) (k + 1) := by
      refine (rb_red cg).2 ⟨by rw [redR_mk]; exact cp, cu, (rb_black cp).2 ⟨k, rfl, h.rb.congr ?_, q1.congr ?_⟩, ?_⟩
      · intro x hx
        exact hcol x (fun e => a2 (e ▸ hx)) (fun e => (a10 x hx).2.1 (e ▸ urm)) (fun e => a3 (e ▸ hx))
      · intro x hx
        exact hcol x (fun e => a4 (e ▸ hx)) (fun e => (a11 x hx).1 (e ▸ urm)) (fun e => a5 (e ▸ hx))
      · obtain ⟨_, _, u3, u4⟩ := (rb_red (s := false) hur).1 q3
        refine (rb_black (s := false) cu).2 ⟨k, rfl, u3.congr ?_, u4.congr ?_⟩
        · intro x hx
          have hm : x ∈ (Tr.node ur ua ub).list := by simp [Tr.list, hx]
          exact hcol x (fun e => a6 (e ▸ hm)) (fun e => ua' (e ▸ hx)) (fun e => a7 (e ▸ hm))
        · intro x hx
          have hm : x ∈ (Tr.node ur ua ub).list := by simp [Tr.list, hx]
          exact hcol x (fun e => a6 (e ▸ hm)) (fun e => ub' (e ▸ hx)) (fun e => a7 (e ▸ hm))
    have kc : ∀ x ∈ cx2.places, col (((st.paint p false).paint ur false).paint g true) x = col st x := by
      intro x hx
      exact hcol x (fun e => a8 (e ▸ hx)) (fun e => a12 ur urm (e ▸ hx)) (fun e => a9 (e ▸ hx))
    have kz : Z P (((st.paint p false).paint ur false).paint g true) cx2 (mk s2 g (mk s1 p (.node n l r) sib) (.node ur ua ub)) :=
      paint_z (paint_z (paint_z hz2 p false p0) ur false ur0) g true g0
    have kt : cx2 = .top ∨ topRed (col (((st.paint p false).paint ur false).paint g true)) cx2 false = false := by
      rcases q5 with e | e
      · exact Or.inl e
      · exact Or.inr (by rw [topRed_congr kc]; exact e)
    cases s2
    · exact ⟨_, _, ⟨kz, cg, key, q4.congr kc, kt⟩, rfl⟩
    · exact ⟨_, _, ⟨kz, cg, key, q4.congr kc, kt⟩, rfl⟩

/-- The uncle is black, and the node is on its parent's own side: two are painted, and the grandparent goes down. -/
theorem red_turn {P : Nat} {st : St} {s2 : Bool} {p g : Nat} {X Y unc : Tr} {cx2 : Cx} {k : Nat}
    (hz : Z P st cx2 (mk s2 g (mk s2 p X Y) unc)) (rX : RB (col st) X k) (rY : RB (col st) Y k) (cY : redR (col st) Y = false) (ru : RB (col st) unc k) (cu : redR (col st) unc = false)
    (rbc : RBC (col st) cx2 (k + 1)) (tp : cx2 = .top ∨ topRed (col st) cx2 false = false) :
    Z P ((st.paint p false).paint g true) cx2 (mk (!s2) g unc (mk (!s2) p Y X)) ∧ Good P (((st.paint p false).paint g true).rot g (!s2)) (cx2.plug (mk (!s2) p (mk (!s2) g unc Y) X)) := by
  obtain ⟨g0, _, _, _, sM, _⟩ := sh_mk.1 hz.sh
  obtain ⟨p0, _, _, _, _, _⟩ := sh_mk.1 sM
  obtain ⟨n1, n2, n3, n4, n5⟩ := nodup_mk.1 hz.nd.nt
  obtain ⟨m1, m2, m3, m4, m5⟩ := nodup_mk.1 n1
  have hpg : p ≠ g := fun e => n3 (e ▸ mem_mk.2 (Or.inl rfl))
  have hcol : ∀ x, x ≠ p → x ≠ g → col ((st.paint p false).paint g true) x = col st x := by
    intro x h1 h2
    rw [col_paint, paint_other _ _ _ _ h2, col_paint, paint_other _ _ _ _ h1]
  have cp : col ((st.paint p false).paint g true) p = false := by rw [col_paint, paint_other _ _ _ _ hpg, col_paint, paint_at]
  have cg : col ((st.paint p false).paint g true) g = true := by rw [col_paint, paint_at]
  have kz : Z P ((st.paint p false).paint g true) cx2 (mk (!s2) g unc (mk (!s2) p Y X)) := by
    have := paint_z (paint_z hz p false p0) g true g0
    rw [mk_flip s2 g, mk_flip s2 p] at this
    exact this
  have kX : ∀ x ∈ X.list, col ((st.paint p false).paint g true) x = col st x := fun x hx => hcol x (fun e => m3 (e ▸ hx)) (fun e => n3 (e ▸ mem_mk.2 (Or.inr (Or.inl hx))))
  have kY : ∀ x ∈ Y.list, col ((st.paint p false).paint g true) x = col st x := fun x hx => hcol x (fun e => m4 (e ▸ hx)) (fun e => n3 (e ▸ mem_mk.2 (Or.inr (Or.inr hx))))
  have ku : ∀ x ∈ unc.list, col ((st.paint p false).paint g true) x = col st x := fun x hx => hcol x (fun e => n5 p (mem_mk.2 (Or.inl rfl)) (e ▸ hx)) (fun e => n4 (e ▸ hx))
  have kc : ∀ x ∈ cx2.places, col ((st.paint p false).paint g true) x = col st x := fun x hx => hcol x (fun e => hz.nd.d p (mem_mk.2 (Or.inr (Or.inl (mem_mk.2 (Or.inl rfl))))) (e ▸ hx)) (fun e => hz.nd.d g (mem_mk.2 (Or.inl rfl)) (e ▸ hx))
  refine ⟨kz, ?_⟩
  have key : RB (col ((st.paint p false).paint g true)) (mk (!s2) p (mk (!s2) g unc Y) X) (k + 1) := by
    refine (rb_black cp).2 ⟨k, rfl, (rb_red cg).2 ⟨?_, ?_, ru.congr ku, rY.congr kY⟩, rX.congr kX⟩
    · rw [redR_congr ku]; exact cu
    · rw [redR_congr kY]; exact cY
  refine ⟨(z_top _ _).1 (rot_z kz), ?_, ?_⟩
  · rw [col_rot]
    exact rb_plug key (rbc.congr kc) (Or.inl (by rw [redR_mk]; exact cp))
  · rw [col_rot, redR_plug, redR_mk, cp]
    rcases tp with rfl | e
    · rfl
    · rw [topRed_congr kc]; exact e
end Go.Proofs.Ytihfldjoogaolaa
