import Derived.Test.YtihfldjoogaolaaTpMath3
namespace Go.Proofs.Ytihfldjoogaolaa

theorem rot_list (s : Bool) (n c : Nat) (A B C : Tr) : (mk s c (mk s n A B) C).list = (mk s n A (mk s c B C)).list := by
  cases s <;> simp [mk, Tr.list, List.append_assoc]
theorem plug_list {t t' : Tr} (h : t.list = t'.list) : ∀ cx : Cx, (cx.plug t).list = (cx.plug t').list
  | .top => h
  | .fr s p sib up => by
    rw [Cx.plug, Cx.plug]
    exact plug_list (by cases s <;> simp [mk, Tr.list, h]) up
theorem mk_flip (s : Bool) (p : Nat) (a b : Tr) : mk s p a b = mk (!s) p b a := by cases s <;> rfl

/-- What of a place is told outside: its key, its turn, whether it is filled. -/
def SameK (x y : Nd) : Prop := x.time = y.time ∧ x.seq = y.seq ∧ x.turn = y.turn ∧ x.filled = y.filled
/-- From one state to another one of the same keys; what isn't among L stays as it was. -/
structure Kept (L : List Nat) (st st' : St) : Prop where
  key : ∀ x, SameK (st'.nd x) (st.nd x)
  out : ∀ x, x ∉ L → st'.nd x = st.nd x
  free : st'.free = st.free
  count : st'.count = st.count
theorem Kept.refl (L : List Nat) (st : St) : Kept L st st := ⟨fun _ => ⟨rfl, rfl, rfl, rfl⟩, fun _ _ => rfl, rfl, rfl⟩
theorem Kept.trans {L : List Nat} {a b c : St} (h : Kept L a b) (k : Kept L b c) : Kept L a c :=
  ⟨fun x => ⟨(k.key x).1.trans (h.key x).1, (k.key x).2.1.trans (h.key x).2.1, (k.key x).2.2.1.trans (h.key x).2.2.1, (k.key x).2.2.2.trans (h.key x).2.2.2⟩,
   fun x hx => (k.out x hx).trans (h.out x hx), k.free.trans h.free, k.count.trans h.count⟩
theorem join_out (st : St) (up : Nat) (s : Bool) (n x : Nat) (h1 : n ≠ 0 → x ≠ n) (h2 : up ≠ 0 → x ≠ up) : (st.join up s n).nd x = st.nd x := by
  unfold St.join St.join1 setUp setDn setAt
  by_cases g1 : n = 0 <;> by_cases g2 : up = 0 <;> simp_all
theorem kept_join {L : List Nat} (st : St) (up : Nat) (s : Bool) (n : Nat) (h1 : n ≠ 0 → n ∈ L) (h2 : up ≠ 0 → up ∈ L) : Kept L st (st.join up s n) :=
  ⟨fun x => let d := join_data st up s n x; ⟨d.1, d.2.1, d.2.2.1, d.2.2.2.1⟩,
   fun x hx => join_out st up s n x (fun h e => hx (e ▸ h1 h)) (fun h e => hx (e ▸ h2 h)), (join_free st up s n).1, (join_free st up s n).2⟩
theorem kept_red {L : List Nat} (st : St) (i : Nat) (r : Bool) (h : i ∈ L) : Kept L st { st with nd := setRed st.nd i r } := by
  refine ⟨fun x => ?_, fun x hx => ?_, rfl, rfl⟩
  · unfold setRed setAt SameK
    by_cases e : x = i <;> simp [e]
  · show (if x = i then _ else st.nd x) = st.nd x
    rw [if_neg]
    intro e; exact hx (e ▸ h)

/-- All places of a tree and what is round it. -/
theorem mem_plug : ∀ (cx : Cx) (t : Tr) (x : Nat), x ∈ (cx.plug t).list ↔ x ∈ t.list ∨ x ∈ cx.places
  | .top, t, x => by simp [Cx.plug, Cx.places]
  | .fr s p sib up, t, x => by
    rw [Cx.plug, mem_plug up, mem_mk]
    simp only [Cx.places, List.mem_cons, List.mem_append]
    constructor
    · rintro ((h | h | h) | h) <;> simp [h]
    · rintro (h | h | h | h) <;> simp [h]

theorem kept_rot {P : Nat} {st : St} {cx : Cx} {s : Bool} {n c : Nat} {A B C : Tr} (h : Z P st cx (mk s n A (mk s c B C))) : Kept (cx.plug (mk s n A (mk s c B C))).list st (st.rot n s) := by
  obtain ⟨n0, hu, a1, a2, sA, sM⟩ := sh_mk.1 h.sh
  obtain ⟨c0, hcu, b1, b2, sB, sC⟩ := sh_mk.1 sM
  rw [mk_root] at a2
  have mt : ∀ x, x = n ∨ x = c ∨ x ∈ B.list ∨ x ∈ cx.places → x ∈ (cx.plug (mk s n A (mk s c B C))).list := by
    intro x hx
    rw [mem_plug, mem_mk, mem_mk]
    rcases hx with h | h | h | h <;> simp [h]
  unfold St.rot
  rw [a2, b1, hu]
  refine ((kept_join _ _ _ _ ?_ ?_).trans (kept_join _ _ _ _ ?_ ?_)).trans (kept_join _ _ _ _ ?_ ?_)
  · exact fun e => mt _ (Or.inr (Or.inr (Or.inl (root_mem e))))
  · exact fun _ => mt _ (Or.inl rfl)
  · exact fun _ => mt _ (Or.inl rfl)
  · exact fun _ => mt _ (Or.inr (Or.inl rfl))
  · exact fun _ => mt _ (Or.inr (Or.inl rfl))
  · exact fun e => mt _ (Or.inr (Or.inr (Or.inr (par_mem e))))

/-- Colours. -/
def col (st : St) : Nat → Bool := fun x => (st.nd x).red
theorem col_join (st : St) (up : Nat) (s : Bool) (n : Nat) : col (st.join up s n) = col st := by
  funext x; exact (join_data st up s n x).2.2.2.2
theorem col_rot (st : St) (n : Nat) (s : Bool) : col (st.rot n s) = col st := by
  unfold St.rot; rw [col_join, col_join, col_join]
def paint (c : Nat → Bool) (i : Nat) (r : Bool) : Nat → Bool := fun x => if x = i then r else c x
def St.paint (st : St) (i : Nat) (r : Bool) : St := { st with nd := setRed st.nd i r }
theorem col_paint (st : St) (i : Nat) (r : Bool) : col (st.paint i r) = Go.Proofs.Ytihfldjoogaolaa.paint (col st) i r := by
  funext x
  unfold col St.paint setRed setAt Go.Proofs.Ytihfldjoogaolaa.paint
  by_cases e : x = i <;> simp [e]
theorem paint_links (st : St) (i : Nat) (r : Bool) (x : Nat) : SameL ((st.paint i r).nd x) (st.nd x) := by
  unfold St.paint setRed setAt SameL
  by_cases e : x = i <;> simp [e]
theorem paint_z {P : Nat} {st : St} {cx : Cx} {t : Tr} (h : Z P st cx t) (i : Nat) (r : Bool) (hi : i ≠ 0) : Z P (st.paint i r) cx t := by
  refine ⟨h.shc.congr (fun x _ => paint_links st i r x), h.sh.congr (fun x _ => paint_links st i r x), h.nd, h.root, ?_⟩
  have : (st.paint i r).nd 0 = st.nd 0 := by
    unfold St.paint setRed setAt
    simp only
    rw [if_neg (fun e => hi e.symm)]
  rw [this]; exact h.zero

def redR (c : Nat → Bool) : Tr → Bool
  | .nil => false
  | .node p _ _ => c p
def RB (c : Nat → Bool) : Tr → Nat → Prop
  | .nil, k => k = 0
  | .node p l r, k => if c p = true then redR c l = false ∧ redR c r = false ∧ RB c l k ∧ RB c r k else ∃ j, k = j + 1 ∧ RB c l j ∧ RB c r j
def redC (c : Nat → Bool) : Cx → Bool
  | .top => false
  | .fr _ p _ _ => c p
def RBC (c : Nat → Bool) : Cx → Nat → Prop
  | .top, _ => True
  | .fr _ p sib up, k => RB c sib k ∧ (if c p = true then redR c sib = false ∧ redC c up = false ∧ RBC c up k else RBC c up (k + 1))
def topRed (c : Nat → Bool) : Cx → Bool → Bool
  | .top, b => b
  | .fr _ p _ up, _ => topRed c up (c p)

theorem redR_mk (c : Nat → Bool) (s : Bool) (p : Nat) (a b : Tr) : redR c (mk s p a b) = c p := by cases s <;> rfl
theorem rb_red {c : Nat → Bool} {s : Bool} {p k : Nat} {a b : Tr} (h : c p = true) : RB c (mk s p a b) k ↔ redR c a = false ∧ redR c b = false ∧ RB c a k ∧ RB c b k := by
  cases s
  · show (if c p = true then _ else _) ↔ _
    rw [if_pos h]
  · show (if c p = true then _ else _) ↔ _
    rw [if_pos h]
    constructor
    · rintro ⟨h1, h2, h3, h4⟩; exact ⟨h2, h1, h4, h3⟩
    · rintro ⟨h1, h2, h3, h4⟩; exact ⟨h2, h1, h4, h3⟩
theorem rb_black {c : Nat → Bool} {s : Bool} {p k : Nat} {a b : Tr} (h : c p = false) : RB c (mk s p a b) k ↔ ∃ j, k = j + 1 ∧ RB c a j ∧ RB c b j := by
  have h' : ¬ c p = true := by rw [h]; simp
  cases s
  · show (if c p = true then _ else _) ↔ _
    rw [if_neg h']
  · show (if c p = true then _ else _) ↔ _
    rw [if_neg h']
    constructor
    · rintro ⟨j, h1, h2, h3⟩; exact ⟨j, h1, h3, h2⟩
    · rintro ⟨j, h1, h2, h3⟩; exact ⟨j, h1, h3, h2⟩
theorem redR_plug (c : Nat → Bool) : ∀ (cx : Cx) (t : Tr), redR c (cx.plug t) = topRed c cx (redR c t)
  | .top, _ => rfl
  | .fr s p sib up, t => by rw [Cx.plug, redR_plug c up, redR_mk]; rfl
theorem rb_plug {c : Nat → Bool} : ∀ {cx : Cx} {t : Tr} {k : Nat}, RB c t k → RBC c cx k → (redR c t = false ∨ redC c cx = false) → ∃ K, RB c (cx.plug t) K
  | .top, t, k, h, _, _ => ⟨k, h⟩
  | .fr s p sib up, t, k, h, ⟨h1, h2⟩, h3 => by
    rw [Cx.plug]
    by_cases hp : c p = true
    · rw [if_pos hp] at h2
      obtain ⟨g1, g2, g3⟩ := h2
      have ht : redR c t = false := by
        rcases h3 with e | e
        · exact e
        · simp [redC, hp] at e
      exact rb_plug ((rb_red hp).2 ⟨ht, g1, h, h1⟩) g3 (Or.inr g2)
    · rw [if_neg hp] at h2
      have hp' : c p = false := by simpa using hp
      exact rb_plug ((rb_black hp').2 ⟨k, rfl, h, h1⟩) h2 (Or.inl (by rw [redR_mk]; exact hp'))
theorem RB.congr {c c' : Nat → Bool} : ∀ {t : Tr} {k : Nat}, RB c t k → (∀ x ∈ t.list, c' x = c x) → RB c' t k
  | .nil, _, h, _ => h
  | .node p l r, k, h, hs => by
    have hp := hs p (by simp [Tr.list])
    have hl : ∀ x ∈ l.list, c' x = c x := fun x hx => hs x (by simp [Tr.list, hx])
    have hr : ∀ x ∈ r.list, c' x = c x := fun x hx => hs x (by simp [Tr.list, hx])
    have rl : redR c' l = redR c l := by
      cases l with
      | nil => rfl
      | node q a b => exact hl q (by simp [Tr.list])
    have rr : redR c' r = redR c r := by
      cases r with
      | nil => rfl
      | node q a b => exact hr q (by simp [Tr.list])
    unfold RB at h ⊢
    rw [hp, rl, rr]
    split
    · rename_i e
      rw [if_pos e] at h
      exact ⟨h.1, h.2.1, h.2.2.1.congr hl, h.2.2.2.congr hr⟩
    · rename_i e
      rw [if_neg e] at h
      obtain ⟨j, h1, h2, h3⟩ := h
      exact ⟨j, h1, h2.congr hl, h3.congr hr⟩
theorem redR_congr {c c' : Nat → Bool} {t : Tr} (hs : ∀ x ∈ t.list, c' x = c x) : redR c' t = redR c t := by
  cases t with
  | nil => rfl
  | node q a b => exact hs q (by simp [Tr.list])
theorem redC_congr {c c' : Nat → Bool} {cx : Cx} (hs : ∀ x ∈ cx.places, c' x = c x) : redC c' cx = redC c cx := by
  cases cx with
  | top => rfl
  | fr s p sib up => exact hs p (by simp [Cx.places])
theorem topRed_congr {c c' : Nat → Bool} : ∀ {cx : Cx} {b : Bool}, (∀ x ∈ cx.places, c' x = c x) → topRed c' cx b = topRed c cx b
  | .top, _, _ => rfl
  | .fr s p sib up, b, hs => by
    show topRed c' up (c' p) = topRed c up (c p)
    rw [hs p (by simp [Cx.places])]
    exact topRed_congr (fun x hx => hs x (by simp [Cx.places, hx]))
theorem RBC.congr {c c' : Nat → Bool} : ∀ {cx : Cx} {k : Nat}, RBC c cx k → (∀ x ∈ cx.places, c' x = c x) → RBC c' cx k
  | .top, _, _, _ => trivial
  | .fr s p sib up, k, ⟨h1, h2⟩, hs => by
    have hp := hs p (by simp [Cx.places])
    have hsib : ∀ x ∈ sib.list, c' x = c x := fun x hx => hs x (by simp [Cx.places, hx])
    have hup : ∀ x ∈ up.places, c' x = c x := fun x hx => hs x (by simp [Cx.places, hx])
    refine ⟨h1.congr hsib, ?_⟩
    rw [hp, redR_congr hsib, redC_congr hup]
    split
    · rename_i e
      rw [if_pos e] at h2
      exact ⟨h2.1, h2.2.1, h2.2.2.congr hup⟩
    · rename_i e
      rw [if_neg e] at h2
      exact h2.congr hup
/-- A tree whose ways have as many black ones is balanced. -/
def Tr.least : Tr → Nat
  | .nil => 0
  | .node _ l r => min l.least r.least + 1
def Tr.most : Tr → Nat
  | .nil => 0
  | .node _ l r => max l.most r.most + 1
theorem rb_ways {c : Nat → Bool} : ∀ {t : Tr} {k : Nat}, RB c t k → k ≤ t.least ∧ t.most ≤ 2 * k + (if redR c t = true then 1 else 0)
  | .nil, k, h => by
    have : k = 0 := h
    subst this
    simp [Tr.least, Tr.most]
  | .node p l r, k, h => by
    unfold RB at h
    by_cases hp : c p = true
    · rw [if_pos hp] at h
      obtain ⟨h1, h2, h3, h4⟩ := h
      have a := rb_ways h3
      have b := rb_ways h4
      rw [h1] at a
      rw [h2] at b
      simp only [Bool.false_eq_true, if_false] at a b
      simp only [Tr.least, Tr.most, redR, hp, if_true]
      omega
    · rw [if_neg hp] at h
      obtain ⟨j, rfl, h3, h4⟩ := h
      have a := rb_ways h3
      have b := rb_ways h4
      have ha : (if redR c l = true then 1 else 0) ≤ 1 := by split <;> omega
      have hb : (if redR c r = true then 1 else 0) ≤ 1 := by split <;> omega
      rw [if_neg (show ¬ redR c (.node p l r) = true from hp)]
      simp only [Tr.least, Tr.most]
      omega
end Go.Proofs.Ytihfldjoogaolaa
