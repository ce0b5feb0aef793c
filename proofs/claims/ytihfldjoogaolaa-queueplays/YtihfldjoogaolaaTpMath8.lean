import Derived.Test.YtihfldjoogaolaaTpMath7
namespace Go.Proofs.Ytihfldjoogaolaa

/-- by takes n's stead. -/
def St.repl (st : St) (n m : Nat) : St :=
  (((st.paint m (st.nd n).red).join (st.nd n).up (sideOf st n) m).join m false ((st.nd n).dn false)).join m true ((st.nd n).dn true)
theorem side_paint (st : St) (m : Nat) (r : Bool) (n : Nat) : sideOf (st.paint m r) n = sideOf st n := by
  unfold sideOf
  rw [(paint_links st m r n).1, (paint_links st m r _).2]

theorem repl_z {P : Nat} {st : St} {cx : Cx} {n m : Nat} {l r : Tr} (h : Z P st cx (.node n l r)) (m0 : m ≠ 0) (mP : m ≤ P) (ml : m ∉ l.list) (mr : m ∉ r.list) (mc : m ∉ cx.places) :
    Z P (st.repl n m) cx (.node m l r) := by
  have hside := sideOf_z h
  have hz' := paint_z h m (st.nd n).red m0
  obtain ⟨hc, hs, hn, hr, hz⟩ := hz'
  obtain ⟨n0, hu, a1, a2, sL, sR⟩ := hs
  have hu0 : (st.nd n).up = cx.par := h.sh.2.1
  have a10 : (st.nd n).dn false = l.root := h.sh.2.2.1
  have a20 : (st.nd n).dn true = r.root := h.sh.2.2.2.1
  obtain ⟨q1, q2, q3, q4, q5⟩ := (nodup_mk (s := false)).1 hn.nt
  have dl : ∀ x ∈ l.list, x ∉ cx.places := fun x hx => hn.d x (by simp [Tr.list, hx])
  have dr : ∀ x ∈ r.list, x ∉ cx.places := fun x hx => hn.d x (by simp [Tr.list, hx])
  have hrepl : st.repl n m = (((st.paint m (st.nd n).red).join cx.par cx.side m).join m false l.root).join m true r.root := by
    unfold St.repl; rw [hu0, a10, a20, hside]
  rw [hrepl]
  generalize hst0 : st.paint m (st.nd n).red = st0 at *
  have U : ∀ x, ((((st0.join cx.par cx.side m).join m false l.root).join m true r.root).nd x).up = if r.root ≠ 0 ∧ x = r.root then m else if l.root ≠ 0 ∧ x = l.root then m else if x = m then cx.par else (st0.nd x).up := by
    intro x
    rw [join_up, join_up, join_up]
    simp only [ne_eq, m0, not_false_eq_true, true_and]
  have D : ∀ x t, ((((st0.join cx.par cx.side m).join m false l.root).join m true r.root).nd x).dn t = if x = m ∧ t = true then r.root else if x = m ∧ t = false then l.root else if cx.par ≠ 0 ∧ x = cx.par ∧ t = cx.side then m else (st0.nd x).dn t := by
    intro x t
    rw [join_dn, join_dn, join_dn]
    simp only [ne_eq, m0, not_false_eq_true, true_and]
  generalize hst' : ((st0.join cx.par cx.side m).join m false l.root).join m true r.root = st' at U D
  have rl : ∀ {t : Tr}, m ∉ t.list → t.root ≠ 0 → m ≠ t.root := fun ht h0 e => ht (e ▸ root_mem h0)
  refine ⟨?_, ⟨m0, ?_, ?_, ?_, ?_, ?_⟩, ?_, ?_, ?_⟩
  · refine hc.hole hn.nc ?_ ?_ ?_
    · intro x hx
      rw [U, if_neg (by rintro ⟨e1, e2⟩; exact dr _ (root_mem e1) (e2 ▸ hx)), if_neg (by rintro ⟨e1, e2⟩; exact dl _ (root_mem e1) (e2 ▸ hx)), if_neg (by intro e; exact mc (e ▸ hx))]
    · intro x hx he
      funext t
      rw [D, if_neg (by intro e; exact mc (e.1 ▸ hx)), if_neg (by intro e; exact mc (e.1 ▸ hx)), if_neg (by intro e; exact he e.2.1)]
    · intro hp
      have mm := par_mem hp
      constructor
      · rw [D, if_neg (by intro e; exact mc (e.1 ▸ mm)), if_neg (by intro e; exact mc (e.1 ▸ mm)), if_pos ⟨hp, rfl, rfl⟩]; rfl
      · rw [D, if_neg (by intro e; exact mc (e.1 ▸ mm)), if_neg (by intro e; exact mc (e.1 ▸ mm)), if_neg (by rintro ⟨_, _, e⟩; cases q : cx.side <;> simp [q] at e)]
  · rw [U, if_neg (by rintro ⟨e1, e2⟩; exact rl mr e1 e2), if_neg (by rintro ⟨e1, e2⟩; exact rl ml e1 e2), if_pos rfl]
  · rw [D, if_neg (by simp), if_pos ⟨rfl, rfl⟩]
  · rw [D, if_pos ⟨rfl, rfl⟩]
  · refine sL.move q1 ?_ ?_ ?_
    · intro x hx
      funext t
      rw [D, if_neg (by intro e; exact ml (e.1 ▸ hx)), if_neg (by intro e; exact ml (e.1 ▸ hx)), if_neg (by intro e; exact dl x hx (e.2.1 ▸ par_mem e.1))]
    · intro x hx he
      rw [U, if_neg (by rintro ⟨e1, e2⟩; exact q5 x hx (e2 ▸ root_mem e1)), if_neg (by intro e; exact he e.2), if_neg (by intro e; exact ml (e ▸ hx))]
    · intro h0
      by_cases e : r.root ≠ 0 ∧ l.root = r.root
      · exact absurd (e.2 ▸ root_mem e.1) (q5 _ (root_mem h0))
      · rw [U, if_neg e, if_pos ⟨h0, rfl⟩]
  · refine sR.move q2 ?_ ?_ ?_
    · intro x hx
      funext t
      rw [D, if_neg (by intro e; exact mr (e.1 ▸ hx)), if_neg (by intro e; exact mr (e.1 ▸ hx)), if_neg (by intro e; exact dr x hx (e.2.1 ▸ par_mem e.1))]
    · intro x hx he
      rw [U, if_neg (by intro e; exact he e.2), if_neg (by rintro ⟨e1, e2⟩; exact q5 _ (root_mem e1) (e2 ▸ hx)), if_neg (by intro e; exact mr (e ▸ hx))]
    · intro h0
      rw [U, if_pos ⟨h0, rfl⟩]
  · refine ⟨(nodup_mk (s := false)).2 ⟨q1, q2, ml, mr, q5⟩, hn.nc, ?_, ?_, hn.bc⟩
    · intro x hx
      rcases (mem_mk (s := false)).1 hx with rfl | e | e
      · exact mc
      · exact dl x e
      · exact dr x e
    · intro x hx
      rcases (mem_mk (s := false)).1 hx with rfl | e | e
      · exact mP
      · exact hn.bt x (by simp [Tr.list, e])
      · exact hn.bt x (by simp [Tr.list, e])
  · rw [← hst', join_root, if_neg m0, join_root, if_neg m0, join_root]
    cases cx with
    | top => simp [Cx.par, Cx.rootOf, Tr.root]
    | fr s p sib up =>
      rw [if_neg (show (Cx.fr s p sib up).par ≠ 0 from hc.1), hr]
      rfl
  · rw [← hst']
    exact blank_join (blank_join (blank_join hz))
theorem kept_repl {P : Nat} {st : St} {cx : Cx} {n m : Nat} {l r : Tr} {L : List Nat} (h : Z P st cx (.node n l r)) (hm : m ∈ L) (hL : ∀ x, x ∈ (cx.plug (.node n l r)).list → x ∈ L) : Kept L st (st.repl n m) := by
  have hu0 : (st.nd n).up = cx.par := h.sh.2.1
  have a10 : (st.nd n).dn false = l.root := h.sh.2.2.1
  have a20 : (st.nd n).dn true = r.root := h.sh.2.2.2.1
  unfold St.repl
  rw [hu0, a10, a20]
  have ml : ∀ x, x ∈ l.list ∨ x ∈ r.list ∨ x ∈ cx.places → x ∈ L := by
    intro x hx
    apply hL
    rw [mem_plug]
    rcases hx with e | e | e <;> simp [Tr.list, e]
  exact (((kept_red st m _ hm).trans (kept_join _ _ _ _ (fun _ => hm) (fun e => ml _ (Or.inr (Or.inr (par_mem e)))))).trans (kept_join _ _ _ _ (fun e => ml _ (Or.inl (root_mem e))) (fun _ => hm))).trans (kept_join _ _ _ _ (fun e => ml _ (Or.inr (Or.inl (root_mem e)))) (fun _ => hm))
theorem col_repl (st : St) (n m : Nat) : col (st.repl n m) = paint (col st) m (col st n) := by
  unfold St.repl
  rw [col_join, col_join, col_join, col_paint]; rfl

/-- The way down to the left, from the top. -/
def app : List (Nat × Tr) → Cx → Cx
  | [], base => base
  | (p, b) :: rest, base => app rest (.fr false p b base)
theorem app_plug : ∀ (path : List (Nat × Tr)) (base : Cx) (t : Tr), (app path base).plug t = base.plug ((app path .top).plug t)
  | [], _, _ => rfl
  | (p, b) :: rest, base, t => by
    rw [app, app, app_plug rest (.fr false p b base), app_plug rest (.fr false p b .top)]
    rfl
theorem leftmost : ∀ (t : Tr), t ≠ .nil → ∃ path o R, (∀ d, t.fst d = o) ∧ t = (app path .top).plug (.node o .nil R)
  | .nil, h => absurd rfl h
  | .node p .nil b, _ => ⟨[], p, b, fun _ => rfl, rfl⟩
  | .node p (.node q x y) b, _ => by
    obtain ⟨path, o, R, h1, h2⟩ := leftmost (.node q x y) (by intro e; cases e)
    refine ⟨(p, b) :: path, o, R, fun d => h1 p, ?_⟩
    rw [app, app_plug, ← h2]; rfl
theorem app_places : ∀ (path : List (Nat × Tr)) (base : Cx) (x : Nat), x ∈ (app path base).places ↔ x ∈ (app path .top).places ∨ x ∈ base.places
  | [], base, x => by simp [app, Cx.places]
  | (p, b) :: rest, base, x => by
    rw [app, app, app_places rest (.fr false p b base), app_places rest (.fr false p b .top)]
    simp only [Cx.places, List.mem_cons, List.mem_append, List.not_mem_nil, or_false]
    constructor
    · rintro (h | h | h | h) <;> simp [h]
    · rintro ((h | h | h) | h) <;> simp [h]
theorem rbc_app {c c' : Nat → Bool} {s : Bool} {n m : Nat} {l : Tr} {cx : Cx} : ∀ (path : List (Nat × Tr)) {k : Nat} {b1 b2 : Cx}, (∀ k, RBC c b1 k → RBC c' b2 k) → redC c' b2 = redC c b1 → (∀ x ∈ (app path .top).places, c' x = c x) →
    RBC c (app path b1) k → RBC c' (app path b2) k ∧ redC c' (app path b2) = redC c (app path b1)
  | [], k, b1, b2, h1, h2, _, h => ⟨h1 k h, h2⟩
  | (p, b) :: rest, k, b1, b2, h1, h2, h3, h => by
    have hp : c' p = c p := h3 p (by rw [app, app_places]; simp [Cx.places])
    have hb : ∀ x ∈ b.list, c' x = c x := fun x hx => h3 x (by rw [app, app_places]; simp [Cx.places, hx])
    refine rbc_app (s := s) (n := n) (m := m) (l := l) (cx := cx) rest (b1 := .fr false p b b1) (b2 := .fr false p b b2) ?_ hp (fun x hx => h3 x (by rw [app, app_places]; exact Or.inl hx)) h
    rintro k ⟨g1, g2⟩
    refine ⟨g1.congr hb, ?_⟩
    rw [hp, redR_congr hb, h2]
    split
    · rename_i e; rw [if_pos e] at g2; exact ⟨g2.1, g2.2.1, h1 _ g2.2.2⟩
    · rename_i e; rw [if_neg e] at g2; exact h1 _ g2
theorem top_app {c c' : Nat → Bool} : ∀ (path : List (Nat × Tr)) {b1 b2 : Cx}, (∀ x, topRed c' b2 x = topRed c b1 x) → (∀ x ∈ (app path .top).places, c' x = c x) → ∀ x, topRed c' (app path b2) x = topRed c (app path b1) x
  | [], _, _, h, _, x => h x
  | (p, b) :: rest, b1, b2, h, h3, x => by
    have hp : c' p = c p := h3 p (by rw [app, app_places]; simp [Cx.places])
    refine top_app rest (b1 := .fr false p b b1) (b2 := .fr false p b b2) ?_ (fun x hx => h3 x (by rw [app, app_places]; exact Or.inl hx)) x
    intro y
    show topRed c' b2 (c' p) = topRed c b1 (c p)
    rw [hp, h]
end Go.Proofs.Ytihfldjoogaolaa
