import Derived.Test.YtihfldjoogaolaaTpMath8
namespace Go.Proofs.Ytihfldjoogaolaa

/-- A node with one below it at most goes. -/
theorem unhang_one {P : Nat} {st : St} {cx : Cx} {n : Nat} {l r X : Tr} (hg : Good P st (cx.plug (.node n l r))) (hX : (l = .nil ∧ X = r) ∨ (r = .nil ∧ X = l)) :
    (col st n = false → ∃ j, BlackInv P (st.join cx.par cx.side X.root) cx X j) ∧ (col st n = true → Good P (st.join cx.par cx.side X.root) (cx.plug X)) ∧
    Kept (cx.plug (.node n l r)).list st (st.join cx.par cx.side X.root) ∧ ∃ A B, (cx.plug (.node n l r)).list = A ++ n :: B ∧ (cx.plug X).list = A ++ B := by
  have hz : Z P st cx (.node n l r) := (z_top _ _).2 hg.z
  obtain ⟨n0, hu, a1, a2, sL, sR⟩ := hz.sh
  have hsX : Sh st.nd X n := by rcases hX with ⟨_, rfl⟩ | ⟨_, rfl⟩ <;> assumption
  have hXm : ∀ x ∈ X.list, x ∈ (Tr.node n l r).list := by
    intro x hx
    rcases hX with ⟨_, rfl⟩ | ⟨_, rfl⟩ <;> simp [Tr.list, hx]
  have hXn : X.list.Nodup := by
    obtain ⟨q1, q2, _⟩ := (nodup_mk (s := false)).1 hz.nd.nt
    rcases hX with ⟨_, rfl⟩ | ⟨_, rfl⟩ <;> assumption
  have hnd : ND P X cx := ⟨hXn, hz.nd.nc, fun x hx => hz.nd.d x (hXm x hx), fun x hx => hz.nd.bt x (hXm x hx), hz.nd.bc⟩
  have hz1 : Z P (st.join cx.par cx.side X.root) cx X := graft hz.shc hz.root hz.zero hsX hnd
  obtain ⟨K, hK⟩ := hg.rb
  obtain ⟨k, g1, g2, g3⟩ := rb_unplug hK
  have ht := hg.root
  rw [redR_plug] at ht
  have htop : cx = .top ∨ topRed (col st) cx false = false := by
    cases cx with
    | top => exact Or.inl rfl
    | fr s p sib up => exact Or.inr ht
  refine ⟨?_, ?_, ?_, ?_⟩
  · intro hb
    obtain ⟨j, rfl, h1, h2⟩ := (rb_black (s := false) hb).1 g1
    refine ⟨j, hz1, ?_, ?_, ?_⟩
    · rw [col_join]
      rcases hX with ⟨_, rfl⟩ | ⟨_, rfl⟩
      · exact h2.weak
      · exact h1.weak
    · rw [col_join]; exact g2
    · rw [col_join]; exact htop
  · intro hb
    obtain ⟨h0, h0', h1, h2⟩ := (rb_red (s := false) hb).1 g1
    have hrb : RB (col st) X k := by rcases hX with ⟨_, rfl⟩ | ⟨_, rfl⟩ <;> assumption
    have hbl : redR (col st) X = false := by rcases hX with ⟨_, rfl⟩ | ⟨_, rfl⟩ <;> assumption
    refine ⟨(z_top _ _).1 hz1, ?_, ?_⟩
    · rw [col_join]; exact rb_plug hrb g2 (Or.inl hbl)
    · rw [col_join, redR_plug, hbl]
      rcases htop with rfl | e
      · rfl
      · exact e
  · refine kept_join _ _ _ _ (fun e => ?_) (fun e => ?_)
    · rw [mem_plug]; exact Or.inl (hXm _ (root_mem e))
    · rw [mem_plug]; exact Or.inr (par_mem e)
  · rw [plug_pp, plug_pp]
    rcases hX with ⟨rfl, rfl⟩ | ⟨rfl, rfl⟩
    · exact ⟨cx.pre, X.list ++ cx.post, by simp [Tr.list], rfl⟩
    · exact ⟨cx.pre ++ X.list, cx.post, by simp [Tr.list], by simp⟩

theorem par_app (path : List (Nat × Tr)) (base : Cx) : (app path base).par = if path = [] then base.par else (app path .top).par := by
  induction path generalizing base with
  | nil => rfl
  | cons a rest ih =>
    obtain ⟨p, b⟩ := a
    rw [if_neg (by simp), app, app, ih, ih (.fr false p b .top)]
    split <;> rfl
theorem side_app (path : List (Nat × Tr)) (base : Cx) : (app path base).side = if path = [] then base.side else false := by
  induction path generalizing base with
  | nil => rfl
  | cons a rest ih =>
    obtain ⟨p, b⟩ := a
    rw [if_neg (by simp), app, ih]
    split <;> rfl

/-- A node with two below it goes: the next one takes its stead. -/
theorem unhang_two {P : Nat} {st : St} {cx : Cx} {n o : Nat} {l r R : Tr} {path : List (Nat × Tr)} (hg : Good P st (cx.plug (.node n l r))) (hr : r = (app path .top).plug (.node o .nil R)) :
    Z P st (app path (.fr true n l cx)) (.node o .nil R) ∧
    Z P (st.join (app path (.fr true n l cx)).par (app path (.fr true n l cx)).side R.root) cx (.node n l ((app path .top).plug R)) ∧ o ≠ 0 ∧ o ≤ P ∧ o ≠ n ∧
    ((app path (.fr true n l cx)).par = n → (app path (.fr true o l cx)).par = o) ∧ ((app path (.fr true n l cx)).par ≠ n → (app path (.fr true o l cx)).par = (app path (.fr true n l cx)).par) ∧
    (app path (.fr true o l cx)).side = (app path (.fr true n l cx)).side ∧
    (col st o = false → ∃ j, BlackInv P ((st.join (app path (.fr true n l cx)).par (app path (.fr true n l cx)).side R.root).repl n o) (app path (.fr true o l cx)) R j) ∧
    (col st o = true → Good P ((st.join (app path (.fr true n l cx)).par (app path (.fr true n l cx)).side R.root).repl n o) ((app path (.fr true o l cx)).plug R)) ∧
    Kept (cx.plug (.node n l r)).list st ((st.join (app path (.fr true n l cx)).par (app path (.fr true n l cx)).side R.root).repl n o) ∧
    ∃ A B, (cx.plug (.node n l r)).list = A ++ n :: B ∧ ((app path (.fr true o l cx)).plug R).list = A ++ B := by
  have hpl : cx.plug (.node n l r) = (app path (.fr true n l cx)).plug (.node o .nil R) := by
    rw [app_plug, hr]; rfl
  have hz : Z P st (app path (.fr true n l cx)) (.node o .nil R) := by rw [z_top, ← hpl]; exact hg.z
  have o0 : o ≠ 0 := hz.sh.1
  have oP : o ≤ P := hz.bd
  have oc : o ∉ (app path (.fr true n l cx)).places := hz.nd.d o (by simp [Tr.list])
  have oc' : o ∉ (app path .top).places ∧ o ≠ n ∧ o ∉ l.list ∧ o ∉ cx.places := by
    rw [app_places] at oc
    simp only [Cx.places, List.mem_cons, List.mem_append, not_or] at oc
    exact ⟨oc.1, oc.2.1, oc.2.2.1, oc.2.2.2⟩
  obtain ⟨o1, o2, o3, o4⟩ := oc'
  have oR : o ∉ R.list := by
    have := (nodup_mk (s := false)).1 hz.nd.nt
    exact this.2.2.2.1
  have hnd : ND P R (app path (.fr true n l cx)) := ⟨((nodup_mk (s := false)).1 hz.nd.nt).2.1, hz.nd.nc, fun x hx => hz.nd.d x (by simp [Tr.list, hx]), fun x hx => hz.nd.bt x (by simp [Tr.list, hx]), hz.nd.bc⟩
  have hz1 : Z P (st.join (app path (.fr true n l cx)).par (app path (.fr true n l cx)).side R.root) (app path (.fr true n l cx)) R := graft hz.shc hz.root hz.zero hz.sh.2.2.2.2.2 hnd
  have hz2 : Z P (st.join (app path (.fr true n l cx)).par (app path (.fr true n l cx)).side R.root) cx (.node n l ((app path .top).plug R)) := by
    rw [z_top] at hz1 ⊢
    rw [app_plug] at hz1
    exact hz1
  have or' : o ∉ ((app path .top).plug R).list := by
    rw [mem_plug]
    rintro (e | e)
    · exact oR e
    · exact o1 e
  have hz3 := repl_z hz2 o0 oP o3 or' o4
  have hz4 : Z P ((st.join (app path (.fr true n l cx)).par (app path (.fr true n l cx)).side R.root).repl n o) (app path (.fr true o l cx)) R := by
    rw [z_top, app_plug]
    exact (z_top cx _).1 hz3
  have npath : n ∉ (app path .top).places := by
    intro e
    have hzr := ((z_top cx (.node n l r)).2 hg.z)
    have := ((nodup_mk (s := false)).1 hzr.nd.nt).2.2.2.1
    apply this
    rw [hr, mem_plug]
    exact Or.inr e
  have hpar1 : (app path (.fr true n l cx)).par = n → (app path (.fr true o l cx)).par = o := by
    intro e
    rw [par_app] at e ⊢
    by_cases q : path = []
    · rw [if_pos q]; rfl
    · rw [if_neg q] at e
      exfalso
      have h0 : (app path .top).par ≠ 0 := by
        intro z
        rw [z] at e
        exact (hz1.shc |> fun _ => ((z_top cx (.node n l r)).2 hg.z).sh.1) e.symm
      exact npath (e ▸ par_mem h0)
  have hpar2 : (app path (.fr true n l cx)).par ≠ n → (app path (.fr true o l cx)).par = (app path (.fr true n l cx)).par := by
    intro e
    rw [par_app] at e ⊢
    rw [par_app path (.fr true n l cx)]
    by_cases q : path = []
    · rw [if_pos q] at e; exact absurd rfl e
    · rw [if_neg q, if_neg q]
  have hside : (app path (.fr true o l cx)).side = (app path (.fr true n l cx)).side := by
    rw [side_app, side_app]
    split <;> rfl
  -- colours
  generalize hst1 : st.join (app path (.fr true n l cx)).par (app path (.fr true n l cx)).side R.root = st1 at *
  have c1 : col st1 = col st := by rw [← hst1, col_join]
  have c2 : col (st1.repl n o) = paint (col st) o (col st n) := by rw [col_repl, c1]
  have cx2 : ∀ x, x ≠ o → col (st1.repl n o) x = col st x := fun x hx => by rw [c2, paint_other _ _ _ _ hx]
  have co : col (st1.repl n o) o = col st n := by rw [c2, paint_at]
  obtain ⟨K, hK⟩ := hg.rb
  rw [hpl] at hK
  obtain ⟨k, g1, g2, g3⟩ := rb_unplug hK
  have kl : ∀ x ∈ l.list, col (st1.repl n o) x = col st x := fun x hx => cx2 x (fun e => o3 (e ▸ hx))
  have kc : ∀ x ∈ cx.places, col (st1.repl n o) x = col st x := fun x hx => cx2 x (fun e => o4 (e ▸ hx))
  have kp : ∀ x ∈ (app path .top).places, col (st1.repl n o) x = col st x := fun x hx => cx2 x (fun e => o1 (e ▸ hx))
  have kR : ∀ x ∈ R.list, col (st1.repl n o) x = col st x := fun x hx => cx2 x (fun e => oR (e ▸ hx))
  obtain ⟨h1, h2⟩ := rbc_app (s := true) (n := n) (m := o) (l := l) (cx := cx) (c := col st) (c' := col (st1.repl n o)) path (k := k) (b1 := .fr true n l cx) (b2 := .fr true o l cx) (by
    rintro k ⟨q1, q2⟩
    refine ⟨q1.congr kl, ?_⟩
    rw [co, redR_congr kl, redC_congr kc]
    split
    · rename_i e; rw [if_pos e] at q2; exact ⟨q2.1, q2.2.1, q2.2.2.congr kc⟩
    · rename_i e; rw [if_neg e] at q2; exact q2.congr kc) co kp g2
  have htr : ∀ x, topRed (col (st1.repl n o)) (app path (.fr true o l cx)) x = topRed (col st) (app path (.fr true n l cx)) x :=
    top_app path (by
      intro x
      show topRed _ cx (col (st1.repl n o) o) = topRed _ cx (col st n)
      rw [co, topRed_congr kc]) kp
  have ht := hg.root
  rw [hpl, redR_plug] at ht
  have ntop : ∀ (path : List (Nat × Tr)) (b : Cx) (x y : Bool), b ≠ .top → topRed (col st) (app path b) x = topRed (col st) (app path b) y := by
    intro path
    induction path with
    | nil =>
      intro b x y hb
      cases b with
      | top => exact absurd rfl hb
      | fr s p sib up => rfl
    | cons a rest ih => intro b x y _; exact ih _ x y (by intro e; cases e)
  refine ⟨hz, hz2, o0, oP, o2, hpar1, hpar2, hside, ?_, ?_, ?_, ?_⟩
  · intro hb
    obtain ⟨j, rfl, _, r2⟩ := (rb_black (s := false) hb).1 g1
    refine ⟨j, hz4, (r2.congr kR).weak, h1, Or.inr ?_⟩
    rw [htr, ntop path _ false (redR (col st) (.node o .nil R)) (by intro e; cases e)]
    exact ht
  · intro hb
    obtain ⟨_, r0, _, r2⟩ := (rb_red (s := false) hb).1 g1
    refine ⟨(z_top _ _).1 hz4, rb_plug (r2.congr kR) h1 (Or.inl (by rw [redR_congr kR]; exact r0)), ?_⟩
    rw [redR_plug, htr, ntop path _ _ (redR (col st) (.node o .nil R)) (by intro e; cases e)]
    exact ht
  · have k1 : Kept (cx.plug (.node n l r)).list st st1 := by
      rw [← hst1]
      refine kept_join _ _ _ _ (fun e => ?_) (fun e => ?_)
      · rw [hpl, mem_plug]; exact Or.inl (by simp [Tr.list, root_mem e])
      · rw [hpl, mem_plug]; exact Or.inr (par_mem e)
    refine k1.trans (kept_repl hz2 (by rw [hpl, mem_plug]; exact Or.inl (by simp [Tr.list])) ?_)
    intro x hx
    rw [mem_plug] at hx ⊢
    rcases hx with e | e
    · left
      simp only [Tr.list, List.mem_append, List.mem_cons] at e ⊢
      rcases e with e | e | e
      · exact Or.inl e
      · exact Or.inr (Or.inl e)
      · refine Or.inr (Or.inr ?_)
        rw [hr, mem_plug]
        rw [mem_plug] at e
        rcases e with e | e
        · exact Or.inl (by simp [Tr.list, e])
        · exact Or.inr e
    · exact Or.inr e
  · have hrl : r.list = o :: ((app path .top).plug R).list := by
      have pre0 : ∀ (path : List (Nat × Tr)) (b : Cx), (app path b).pre = b.pre := by
        intro path
        induction path with
        | nil => intro b; rfl
        | cons a rest ih => intro b; rw [app, ih]; rfl
      rw [hr, plug_pp, plug_pp, pre0]
      simp [Tr.list, Cx.pre]
    refine ⟨cx.pre ++ l.list, r.list ++ cx.post, ?_, ?_⟩
    · rw [plug_pp]; simp [Tr.list]
    · rw [app_plug]
      show (cx.plug (.node o l ((app path .top).plug R))).list = _
      rw [plug_pp, hrl]
      simp [Tr.list]
end Go.Proofs.Ytihfldjoogaolaa
