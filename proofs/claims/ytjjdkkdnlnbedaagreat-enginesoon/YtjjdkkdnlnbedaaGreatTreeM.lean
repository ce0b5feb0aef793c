namespace Go.Proofs.YtjjdkkdnlnbedaaGreat

/-- What a place holds. -/
structure Nd where
  time : Int
  seq : Int
  turn : Int
  filled : Bool
  red : Bool
  up : Nat
  dn : Bool → Nat
/-- A tree's state. -/
structure St where
  nd : Nat → Nd
  root : Nat
  free : Nat
  count : Nat

def setAt (f : Nat → Nd) (i : Nat) (x : Nd) : Nat → Nd := fun j => if j = i then x else f j
def setUp (f : Nat → Nd) (i u : Nat) : Nat → Nd := setAt f i { f i with up := u }
def setDn (f : Nat → Nd) (i : Nat) (s : Bool) (c : Nat) : Nat → Nd := setAt f i { f i with dn := fun t => if t = s then c else (f i).dn t }
def setRed (f : Nat → Nd) (i : Nat) (r : Bool) : Nat → Nd := setAt f i { f i with red := r }

/-- On which side of the node above it a place is. -/
def sideOf (st : St) (n : Nat) : Bool := decide ((st.nd (st.nd n).up).dn true = n)
def sd (s : Bool) : Int := if s then 1 else 0
/-- n hangs on a side of up; or it is the root. -/
def St.join1 (st : St) (up : Nat) (s : Bool) (n : Nat) : St := if up = 0 then { st with root := n } else { st with nd := setDn st.nd up s n }
def St.join (st : St) (up : Nat) (s : Bool) (n : Nat) : St := if n = 0 then st.join1 up s n else { st.join1 up s n with nd := setUp (st.join1 up s n).nd n up }

/-- The shape of a tree of places. -/
inductive Tr where
  | nil
  | node (p : Nat) (l r : Tr)
def Tr.list : Tr → List Nat
  | .nil => []
  | .node p l r => l.list ++ p :: r.list
def Tr.root : Tr → Nat
  | .nil => 0
  | .node p _ _ => p
def Tr.size : Tr → Nat
  | .nil => 0
  | .node _ l r => l.size + r.size + 1
/-- A node, with what hangs on a side, and on the other one. -/
def mk (s : Bool) (p : Nat) (a b : Tr) : Tr := if s then .node p b a else .node p a b
/-- What is round a tree. -/
inductive Cx where
  | top
  | fr (s : Bool) (p : Nat) (sib : Tr) (up : Cx)
def Cx.plug : Cx → Tr → Tr
  | .top, t => t
  | .fr s p sib up, t => up.plug (mk s p t sib)
def Cx.par : Cx → Nat
  | .top => 0
  | .fr _ p _ _ => p
def Cx.rootOf : Cx → Nat → Nat
  | .top, n => n
  | .fr _ p _ up, _ => up.rootOf p
def Cx.depth : Cx → Nat
  | .top => 0
  | .fr _ _ _ up => up.depth + 1
def Cx.places : Cx → List Nat
  | .top => []
  | .fr _ p sib up => p :: (sib.list ++ up.places)

/-- The links are those of a tree below u. -/
def Sh (nd : Nat → Nd) : Tr → Nat → Prop
  | .nil, _ => True
  | .node p l r, u => p ≠ 0 ∧ (nd p).up = u ∧ (nd p).dn false = l.root ∧ (nd p).dn true = r.root ∧ Sh nd l p ∧ Sh nd r p
def ShC (nd : Nat → Nd) : Cx → Nat → Prop
  | .top, _ => True
  | .fr s p sib up, n => p ≠ 0 ∧ (nd p).up = up.par ∧ (nd p).dn s = n ∧ (nd p).dn (!s) = sib.root ∧ Sh nd sib p ∧ ShC nd up p

theorem mk_root (s : Bool) (p : Nat) (a b : Tr) : (mk s p a b).root = p := by cases s <;> rfl
theorem sh_mk {nd : Nat → Nd} {s : Bool} {p u : Nat} {a b : Tr} : Sh nd (mk s p a b) u ↔ p ≠ 0 ∧ (nd p).up = u ∧ (nd p).dn s = a.root ∧ (nd p).dn (!s) = b.root ∧ Sh nd a p ∧ Sh nd b p := by
  cases s
  · exact Iff.rfl
  · show (_ ∧ _ ∧ _ ∧ _ ∧ _ ∧ _) ↔ _
    simp only [Bool.not_true]
    constructor
    · rintro ⟨h1, h2, h3, h4, h5, h6⟩; exact ⟨h1, h2, h4, h3, h6, h5⟩
    · rintro ⟨h1, h2, h3, h4, h5, h6⟩; exact ⟨h1, h2, h4, h3, h6, h5⟩
theorem sh_plug {nd : Nat → Nd} : ∀ (cx : Cx) (t : Tr), Sh nd (cx.plug t) 0 ↔ ShC nd cx t.root ∧ Sh nd t cx.par
  | .top, t => by simp [Cx.plug, ShC, Cx.par]
  | .fr s p sib up, t => by
    rw [Cx.plug, sh_plug up, mk_root, sh_mk]
    simp only [ShC, Cx.par]
    constructor
    · rintro ⟨h0, h1, h2, h3, h4, h5, h6⟩; exact ⟨⟨h1, h2, h3, h4, h6, h0⟩, h5⟩
    · rintro ⟨⟨h1, h2, h3, h4, h6, h0⟩, h5⟩; exact ⟨h0, h1, h2, h3, h4, h5, h6⟩
theorem plug_root : ∀ (cx : Cx) (t : Tr), (cx.plug t).root = cx.rootOf t.root
  | .top, _ => rfl
  | .fr s p sib up, t => by rw [Cx.plug, plug_root up, mk_root]; rfl
theorem sh_root_ne {nd : Nat → Nd} {t : Tr} {u : Nat} (h : Sh nd t u) (hr : t.root = 0) : t = .nil := by
  cases t with
  | nil => rfl
  | node p l r => exact absurd hr h.1
/-- The first place. -/
def Tr.fst (d : Nat) : Tr → Nat
  | .nil => d
  | .node p l _ => l.fst p
theorem fst_list : ∀ (t : Tr) (d : Nat), t.fst d = t.list.headD d
  | .nil, _ => rfl
  | .node p l r, d => by
    rw [Tr.fst, fst_list l p, Tr.list]
    cases l.list <;> rfl
end Go.Proofs.YtjjdkkdnlnbedaaGreat


namespace Go.Proofs.YtjjdkkdnlnbedaaGreat

theorem mem_mk {x : Nat} {s : Bool} {p : Nat} {a b : Tr} : x ∈ (mk s p a b).list ↔ x = p ∨ x ∈ a.list ∨ x ∈ b.list := by
  cases s <;> simp [mk, Tr.list]
  · constructor
    · rintro (h | h | h) <;> simp [h]
    · rintro (h | h | h) <;> simp [h]
  · constructor
    · rintro (h | h | h) <;> simp [h]
    · rintro (h | h | h) <;> simp [h]
theorem nodup_mk {s : Bool} {p : Nat} {a b : Tr} : (mk s p a b).list.Nodup ↔ a.list.Nodup ∧ b.list.Nodup ∧ p ∉ a.list ∧ p ∉ b.list ∧ ∀ x ∈ a.list, x ∉ b.list := by
  cases s
  · simp only [mk, Tr.list, List.nodup_append, List.nodup_cons, List.mem_cons, Bool.false_eq_true, if_false]
    constructor
    · rintro ⟨h1, ⟨h2, h3⟩, h4⟩
      exact ⟨h1, h3, fun h => h4 p h p (Or.inl rfl) rfl, h2, fun x hx hy => h4 x hx x (Or.inr hy) rfl⟩
    · rintro ⟨h1, h3, h5, h2, h4⟩
      refine ⟨h1, ⟨h2, h3⟩, ?_⟩
      rintro x hx y (rfl | hy) rfl
      · exact h5 hx
      · exact h4 x hx hy
  · simp only [mk, Tr.list, List.nodup_append, List.nodup_cons, List.mem_cons, if_true]
    constructor
    · rintro ⟨h1, ⟨h2, h3⟩, h4⟩
      exact ⟨h3, h1, h2, fun h => h4 p h p (Or.inl rfl) rfl, fun x hx hy => h4 x hy x (Or.inr hx) rfl⟩
    · rintro ⟨h3, h1, h2, h5, h4⟩
      refine ⟨h1, ⟨h2, h3⟩, ?_⟩
      rintro x hx y (rfl | hy) rfl
      · exact h5 hx
      · exact h4 x hy hx

/-- No place stands twice in a tree and what is round it, and all are within bounds. -/
structure ND (P : Nat) (t : Tr) (cx : Cx) : Prop where
  nt : t.list.Nodup
  nc : cx.places.Nodup
  d : ∀ x ∈ t.list, x ∉ cx.places
  bt : ∀ x ∈ t.list, x ≤ P
  bc : ∀ x ∈ cx.places, x ≤ P
theorem nd_move {P : Nat} {s : Bool} {p : Nat} {a b : Tr} {cx : Cx} : ND P (mk s p a b) cx ↔ ND P a (.fr s p b cx) := by
  constructor
  · rintro ⟨h1, h2, h3, h4, h5⟩
    obtain ⟨g1, g2, g3, g4, g5⟩ := nodup_mk.1 h1
    refine ⟨g1, ?_, ?_, fun x hx => h4 x (mem_mk.2 (Or.inr (Or.inl hx))), ?_⟩
    · simp only [Cx.places, List.nodup_cons, List.mem_append, List.nodup_append, not_or]
      exact ⟨⟨g4, h3 p (mem_mk.2 (Or.inl rfl))⟩, g2, h2, fun x hx y hy e => h3 x (mem_mk.2 (Or.inr (Or.inr hx))) (e ▸ hy)⟩
    · intro x hx
      simp only [Cx.places, List.mem_cons, List.mem_append, not_or]
      exact ⟨fun e => g3 (e ▸ hx), g5 x hx, h3 x (mem_mk.2 (Or.inr (Or.inl hx)))⟩
    · intro x hx
      simp only [Cx.places, List.mem_cons, List.mem_append] at hx
      rcases hx with rfl | hx | hx
      · exact h4 x (mem_mk.2 (Or.inl rfl))
      · exact h4 x (mem_mk.2 (Or.inr (Or.inr hx)))
      · exact h5 x hx
  · rintro ⟨h1, h2, h3, h4, h5⟩
    simp only [Cx.places, List.nodup_cons, List.mem_append, List.nodup_append, not_or] at h2
    obtain ⟨⟨q1, q2⟩, q3, q4, q5⟩ := h2
    have h3' : ∀ x ∈ a.list, x ≠ p ∧ x ∉ b.list ∧ x ∉ cx.places := by
      intro x hx
      have := h3 x hx
      simpa only [Cx.places, List.mem_cons, List.mem_append, not_or] using this
    have h5' : ∀ x, x = p ∨ x ∈ b.list ∨ x ∈ cx.places → x ≤ P := by
      intro x hx
      exact h5 x (by simpa only [Cx.places, List.mem_cons, List.mem_append] using hx)
    refine ⟨nodup_mk.2 ⟨h1, q3, fun h => (h3' p h).1 rfl, q1, fun x hx => (h3' x hx).2.1⟩, q4, ?_, ?_, fun x hx => h5' x (Or.inr (Or.inr hx))⟩
    · intro x hx
      rcases mem_mk.1 hx with rfl | h | h
      · exact q2
      · exact (h3' x h).2.2
      · exact fun hc => q5 x h x hc rfl
    · intro x hx
      rcases mem_mk.1 hx with rfl | h | h
      · exact h5' x (Or.inl rfl)
      · exact h4 x h
      · exact h5' x (Or.inr (Or.inl h))

/-- The blank place. -/
structure Blank (x : Nd) : Prop where
  filled : x.filled = false
  red : x.red = false
  up : x.up = 0
  dn : ∀ s, x.dn s = 0

/-- A tree at a place, and what is round it. -/
structure Z (P : Nat) (st : St) (cx : Cx) (t : Tr) : Prop where
  shc : ShC st.nd cx t.root
  sh : Sh st.nd t cx.par
  nd : ND P t cx
  root : st.root = cx.rootOf t.root
  zero : Blank (st.nd 0)

theorem z_move {P : Nat} {st : St} {s : Bool} {p : Nat} {a b : Tr} {cx : Cx} : Z P st cx (mk s p a b) ↔ Z P st (.fr s p b cx) a := by
  constructor
  · rintro ⟨h1, h2, h3, h4, h5⟩
    rw [mk_root] at h1 h4
    obtain ⟨g1, g2, g3, g4, g5, g6⟩ := sh_mk.1 h2
    exact ⟨⟨g1, g2, g3, g4, g6, h1⟩, g5, nd_move.1 h3, h4, h5⟩
  · rintro ⟨⟨g1, g2, g3, g4, g6, h1⟩, g5, h3, h4, h5⟩
    exact ⟨by rw [mk_root]; exact h1, sh_mk.2 ⟨g1, g2, g3, g4, g5, g6⟩, nd_move.2 h3, by rw [mk_root]; exact h4, h5⟩
theorem z_top {P : Nat} {st : St} : ∀ (cx : Cx) (t : Tr), Z P st cx t ↔ Z P st .top (cx.plug t)
  | .top, _ => Iff.rfl
  | .fr s p sib up, t => by rw [Cx.plug, ← z_top up, z_move]
theorem Z.left {P : Nat} {st : St} {cx : Cx} {p : Nat} {l r : Tr} (h : Z P st cx (.node p l r)) : Z P st (.fr false p r cx) l := (z_move (s := false)).1 h
theorem Z.right {P : Nat} {st : St} {cx : Cx} {p : Nat} {l r : Tr} (h : Z P st cx (.node p l r)) : Z P st (.fr true p l cx) r := (z_move (s := true)).1 h
theorem Z.bd {P : Nat} {st : St} {cx : Cx} {t : Tr} (h : Z P st cx t) : t.root ≤ P := by
  cases t with
  | nil => exact Nat.zero_le _
  | node p l r => exact h.nd.bt p (by simp [Tr.list])
theorem Z.par_bd {P : Nat} {st : St} {cx : Cx} {t : Tr} (h : Z P st cx t) : cx.par ≤ P := by
  cases cx with
  | top => exact Nat.zero_le _
  | fr s p sib up => exact h.nd.bc p (by simp [Cx.places])
def Cx.side : Cx → Bool
  | .top => false
  | .fr s _ _ _ => s
theorem sideOf_z {P : Nat} {st : St} {cx : Cx} {p : Nat} {l r : Tr} (h : Z P st cx (.node p l r)) : sideOf st p = cx.side := by
  have hu : (st.nd p).up = cx.par := h.sh.2.1
  have hp : p ≠ 0 := h.sh.1
  cases cx with
  | top =>
    have hu' : (st.nd p).up = 0 := hu
    clear hu
    have := h.zero.dn true
    unfold sideOf
    exact decide_eq_false (fun e => by rw [hu', this] at e; exact hp e.symm)
  | fr s q sib up =>
    have hu' : (st.nd p).up = q := hu
    clear hu
    obtain ⟨g1, g2, g3, g4, g5, g6⟩ := h.shc
    unfold sideOf
    cases s
    · refine decide_eq_false (fun e => ?_)
      have g4 : (st.nd q).dn true = sib.root := g4
      rw [hu', g4] at e
      cases sib with
      | nil => exact hp e.symm
      | node q' l' r' =>
        have e' : q' = p := e
        have := h.nd.d p (by simp [Tr.list])
        simp [Cx.places, Tr.list, e'] at this
    · have g3 : (st.nd q).dn true = p := g3
      exact decide_eq_true (by rw [hu', g3])

/-- The place that is next behind what is round. -/
def Cx.nxt : Cx → Nat
  | .top => 0
  | .fr false p _ _ => p
  | .fr true _ _ up => up.nxt
end Go.Proofs.YtjjdkkdnlnbedaaGreat


namespace Go.Proofs.YtjjdkkdnlnbedaaGreat

/-- The links of a place are what they were. -/
def SameL (x y : Nd) : Prop := x.up = y.up ∧ x.dn = y.dn
theorem Sh.congr {nd nd' : Nat → Nd} : ∀ {t : Tr} {u : Nat}, Sh nd t u → (∀ x ∈ t.list, SameL (nd' x) (nd x)) → Sh nd' t u
  | .nil, _, _, _ => trivial
  | .node p l r, u, ⟨h1, h2, h3, h4, h5, h6⟩, hs => by
    have hp := hs p (by simp [Tr.list])
    refine ⟨h1, by rw [hp.1]; exact h2, by rw [hp.2]; exact h3, by rw [hp.2]; exact h4, h5.congr (fun x hx => hs x (by simp [Tr.list, hx])), h6.congr (fun x hx => hs x (by simp [Tr.list, hx]))⟩
theorem ShC.congr {nd nd' : Nat → Nd} : ∀ {cx : Cx} {n : Nat}, ShC nd cx n → (∀ x ∈ cx.places, SameL (nd' x) (nd x)) → ShC nd' cx n
  | .top, _, _, _ => trivial
  | .fr s p sib up, n, ⟨h1, h2, h3, h4, h5, h6⟩, hs => by
    have hp := hs p (by simp [Cx.places])
    refine ⟨h1, by rw [hp.1]; exact h2, by rw [hp.2]; exact h3, by rw [hp.2]; exact h4, h5.congr (fun x hx => hs x (by simp [Cx.places, hx])), h6.congr (fun x hx => hs x (by simp [Cx.places, hx]))⟩
theorem root_mem {t : Tr} (h : t.root ≠ 0) : t.root ∈ t.list := by
  cases t with
  | nil => exact absurd rfl h
  | node p l r => simp [Tr.root, Tr.list]
/-- A tree that hangs elsewhere. -/
theorem Sh.move {nd nd' : Nat → Nd} {t : Tr} {u u' : Nat} (h : Sh nd t u) (hn : t.list.Nodup) (hd : ∀ x ∈ t.list, (nd' x).dn = (nd x).dn) (hu : ∀ x ∈ t.list, x ≠ t.root → (nd' x).up = (nd x).up)
    (hr : t.root ≠ 0 → (nd' t.root).up = u') : Sh nd' t u' := by
  cases t with
  | nil => trivial
  | node p l r =>
    obtain ⟨h1, h2, h3, h4, h5, h6⟩ := h
    have hn' := (nodup_mk (s := false)).1 hn
    obtain ⟨_, _, n1, n2, _⟩ := hn'
    refine ⟨h1, hr h1, by rw [hd p (by simp [Tr.list])]; exact h3, by rw [hd p (by simp [Tr.list])]; exact h4, h5.congr ?_, h6.congr ?_⟩
    · intro x hx
      exact ⟨hu x (by simp [Tr.list, hx]) (fun e => n1 ((show x = p from e) ▸ hx)), hd x (by simp [Tr.list, hx])⟩
    · intro x hx
      exact ⟨hu x (by simp [Tr.list, hx]) (fun e => n2 ((show x = p from e) ▸ hx)), hd x (by simp [Tr.list, hx])⟩

/-- What a join leaves alone. -/
def SameD (x y : Nd) : Prop := x.time = y.time ∧ x.seq = y.seq ∧ x.turn = y.turn ∧ x.filled = y.filled ∧ x.red = y.red
theorem join_up (st : St) (up : Nat) (s : Bool) (n x : Nat) : ((st.join up s n).nd x).up = if n ≠ 0 ∧ x = n then up else (st.nd x).up := by
  unfold St.join St.join1 setUp setDn setAt
  by_cases h1 : n = 0 <;> by_cases h2 : up = 0 <;> by_cases h3 : x = n <;> by_cases h4 : x = up <;> simp_all
theorem join_dn (st : St) (up : Nat) (s : Bool) (n x : Nat) (t : Bool) : ((st.join up s n).nd x).dn t = if up ≠ 0 ∧ x = up ∧ t = s then n else (st.nd x).dn t := by
  unfold St.join St.join1 setUp setDn setAt
  by_cases h1 : n = 0 <;> by_cases h2 : up = 0 <;> by_cases h3 : x = n <;> by_cases h4 : x = up <;> simp_all
  all_goals (split <;> simp_all)
theorem join_data (st : St) (up : Nat) (s : Bool) (n x : Nat) : SameD ((st.join up s n).nd x) (st.nd x) := by
  unfold St.join St.join1 setUp setDn setAt SameD
  by_cases h1 : n = 0 <;> by_cases h2 : up = 0 <;> by_cases h3 : x = n <;> by_cases h4 : x = up <;> simp_all
theorem join_root (st : St) (up : Nat) (s : Bool) (n : Nat) : (st.join up s n).root = if up = 0 then n else st.root := by
  unfold St.join St.join1
  by_cases h1 : n = 0 <;> by_cases h2 : up = 0 <;> simp_all
theorem join_free (st : St) (up : Nat) (s : Bool) (n : Nat) : (st.join up s n).free = st.free ∧ (st.join up s n).count = st.count := by
  unfold St.join St.join1
  by_cases h1 : n = 0 <;> by_cases h2 : up = 0 <;> simp_all

theorem par_mem {cx : Cx} (h : cx.par ≠ 0) : cx.par ∈ cx.places := by
  cases cx with
  | top => exact absurd rfl h
  | fr s p sib up => simp [Cx.par, Cx.places]
theorem not_zero_mem {nd : Nat → Nd} : ∀ {t : Tr} {u : Nat}, Sh nd t u → 0 ∉ t.list
  | .nil, _, _ => by simp [Tr.list]
  | .node p l r, _, ⟨h1, _, _, _, h5, h6⟩ => by
    simp only [Tr.list, List.mem_append, List.mem_cons, not_or]
    exact ⟨not_zero_mem h5, fun e => h1 e.symm, not_zero_mem h6⟩
theorem not_zero_memC {nd : Nat → Nd} : ∀ {cx : Cx} {n : Nat}, ShC nd cx n → 0 ∉ cx.places
  | .top, _, _ => by simp [Cx.places]
  | .fr s p sib up, _, ⟨h1, _, _, _, h5, h6⟩ => by
    simp only [Cx.places, List.mem_cons, List.mem_append, not_or]
    exact ⟨fun e => h1 e.symm, not_zero_mem h5, not_zero_memC h6⟩

/-- The context's own links, where what hangs in it has another root. -/
theorem ShC.hole {nd nd' : Nat → Nd} {cx : Cx} {n n' : Nat} (h : ShC nd cx n) (hn : cx.places.Nodup) (hu : ∀ x ∈ cx.places, (nd' x).up = (nd x).up)
    (hd : ∀ x ∈ cx.places, x ≠ cx.par → (nd' x).dn = (nd x).dn) (hp : cx.par ≠ 0 → (nd' cx.par).dn cx.side = n' ∧ (nd' cx.par).dn (!cx.side) = (nd cx.par).dn (!cx.side)) : ShC nd' cx n' := by
  cases cx with
  | top => trivial
  | fr s p sib up =>
    obtain ⟨h1, h2, h3, h4, h5, h6⟩ := h
    simp only [Cx.places, List.nodup_cons, List.mem_append, not_or] at hn
    obtain ⟨⟨n1, n2⟩, n3⟩ := hn
    have hp' := hp h1
    simp only [Cx.par, Cx.side] at hp'
    refine ⟨h1, by rw [hu p (by simp [Cx.places])]; exact h2, hp'.1, by rw [hp'.2]; exact h4, h5.congr ?_, h6.congr ?_⟩
    · intro x hx
      exact ⟨hu x (by simp [Cx.places, hx]), hd x (by simp [Cx.places, hx]) (fun e => n1 ((show x = p from e) ▸ hx))⟩
    · intro x hx
      exact ⟨hu x (by simp [Cx.places, hx]), hd x (by simp [Cx.places, hx]) (fun e => n2 ((show x = p from e) ▸ hx))⟩

theorem blank_join {st : St} {up : Nat} {s : Bool} {n : Nat} (h : Blank (st.nd 0)) : Blank ((st.join up s n).nd 0) := by
  obtain ⟨h1, h2, h3, h4⟩ := h
  have hd := join_data st up s n 0
  refine ⟨hd.2.2.2.1.trans h1, hd.2.2.2.2.trans h2, ?_, ?_⟩
  · rw [join_up, if_neg (by intro e; exact e.1 e.2.symm)]; exact h3
  · intro t
    rw [join_dn, if_neg (by intro e; exact e.1 e.2.1.symm)]; exact h4 t

/-- A tree is hung where a hole is. -/
theorem graft {P : Nat} {st : St} {cx : Cx} {r0 v : Nat} {t : Tr} (hc : ShC st.nd cx r0) (hr : st.root = cx.rootOf r0) (hz : Blank (st.nd 0)) (ht : Sh st.nd t v) (hn : ND P t cx) :
    Z P (st.join cx.par cx.side t.root) cx t := by
  have t0 := not_zero_mem ht
  have c0 := not_zero_memC hc
  refine ⟨?_, ?_, hn, ?_, blank_join hz⟩
  · refine hc.hole hn.nc ?_ ?_ ?_
    · intro x hx
      rw [join_up, if_neg]
      rintro ⟨h1, rfl⟩
      exact hn.d _ (root_mem h1) hx
    · intro x hx he
      funext s
      rw [join_dn, if_neg]
      rintro ⟨_, h2, _⟩
      exact he h2
    · intro hp
      rw [join_dn, if_pos ⟨hp, rfl, rfl⟩, join_dn, if_neg (by rintro ⟨_, _, h⟩; cases hs : cx.side <;> simp [hs] at h)]
      exact ⟨rfl, rfl⟩
  · refine ht.move hn.nt ?_ ?_ ?_
    · intro x hx
      funext s
      rw [join_dn, if_neg]
      rintro ⟨h1, rfl, _⟩
      exact hn.d _ hx (par_mem h1)
    · intro x hx he
      rw [join_up, if_neg]
      rintro ⟨_, h2⟩
      exact he h2
    · intro h
      rw [join_up, if_pos ⟨h, rfl⟩]
  · rw [join_root]
    cases cx with
    | top => simp [Cx.par, Cx.rootOf]
    | fr s p sib up =>
      rw [if_neg (show (Cx.fr s p sib up).par ≠ 0 from hc.1), hr]
      rfl

def St.rot (st : St) (n : Nat) (s : Bool) : St :=
  ((st.join n (!s) ((st.nd ((st.nd n).dn (!s))).dn s)).join ((st.nd n).dn (!s)) s n).join (st.nd n).up (sideOf st n) ((st.nd n).dn (!s))

theorem rot_z {P : Nat} {st : St} {cx : Cx} {s : Bool} {n c : Nat} {A B C : Tr} (h : Z P st cx (mk s n A (mk s c B C))) :
    Z P (st.rot n s) cx (mk s c (mk s n A B) C) := by
  obtain ⟨hc, hs, hn, hr, hz⟩ := h
  have hside : sideOf st n = cx.side := by
    cases s
    · exact sideOf_z (l := A) (r := mk false c B C) ⟨hc, hs, hn, hr, hz⟩
    · exact sideOf_z (l := mk true c B C) (r := A) ⟨hc, hs, hn, hr, hz⟩
  rw [mk_root] at hc hr
  obtain ⟨n0, hu, a1, a2, sA, sM⟩ := sh_mk.1 hs
  obtain ⟨c0, hcu, b1, b2, sB, sC⟩ := sh_mk.1 sM
  rw [mk_root] at a2
  obtain ⟨q1, q2, q3, q4, q5⟩ := nodup_mk.1 hn.nt
  obtain ⟨r1, r2, r3, r4, r5⟩ := nodup_mk.1 q2
  have nc : n ≠ c := fun e => q4 (mem_mk.2 (Or.inl e))
  have nB : n ∉ B.list := fun e => q4 (mem_mk.2 (Or.inr (Or.inl e)))
  have nC : n ∉ C.list := fun e => q4 (mem_mk.2 (Or.inr (Or.inr e)))
  have cA : c ∉ A.list := fun e => q5 c e (mem_mk.2 (Or.inl rfl))
  have AB : ∀ x ∈ A.list, x ∉ B.list := fun x hx e => q5 x hx (mem_mk.2 (Or.inr (Or.inl e)))
  have AC : ∀ x ∈ A.list, x ∉ C.list := fun x hx e => q5 x hx (mem_mk.2 (Or.inr (Or.inr e)))
  have dn : n ∉ cx.places := hn.d n (mem_mk.2 (Or.inl rfl))
  have dA : ∀ x ∈ A.list, x ∉ cx.places := fun x hx => hn.d x (mem_mk.2 (Or.inr (Or.inl hx)))
  have dc : c ∉ cx.places := hn.d c (mem_mk.2 (Or.inr (Or.inr (mem_mk.2 (Or.inl rfl)))))
  have dB : ∀ x ∈ B.list, x ∉ cx.places := fun x hx => hn.d x (mem_mk.2 (Or.inr (Or.inr (mem_mk.2 (Or.inr (Or.inl hx))))))
  have dC : ∀ x ∈ C.list, x ∉ cx.places := fun x hx => hn.d x (mem_mk.2 (Or.inr (Or.inr (mem_mk.2 (Or.inr (Or.inr hx))))))
  have hrot : st.rot n s = ((st.join n (!s) B.root).join c s n).join cx.par cx.side c := by unfold St.rot; rw [a2, b1, hu, hside]
  rw [hrot]
  have U : ∀ x, ((((st.join n (!s) B.root).join c s n).join cx.par cx.side c).nd x).up = if x = c then cx.par else if x = n then c else if B.root ≠ 0 ∧ x = B.root then n else (st.nd x).up := by
    intro x
    rw [join_up, join_up, join_up]
    simp only [ne_eq, c0, not_false_eq_true, true_and, n0]
  have D : ∀ x t, ((((st.join n (!s) B.root).join c s n).join cx.par cx.side c).nd x).dn t = if cx.par ≠ 0 ∧ x = cx.par ∧ t = cx.side then c else if x = c ∧ t = s then n else if x = n ∧ t = (!s) then B.root else (st.nd x).dn t := by
    intro x t
    rw [join_dn, join_dn, join_dn]
    simp only [ne_eq, c0, not_false_eq_true, true_and, n0]
  generalize hst' : ((st.join n (!s) B.root).join c s n).join cx.par cx.side c = st' at U D
  have same : ∀ x, x ≠ c → x ≠ n → x ∉ B.list → x ∉ cx.places → SameL (st'.nd x) (st.nd x) := by
    intro x h1 h2 h3 h4
    constructor
    · rw [U, if_neg h1, if_neg h2, if_neg]
      rintro ⟨g1, rfl⟩
      exact h3 (root_mem g1)
    · funext t
      rw [D, if_neg, if_neg, if_neg]
      · exact fun e => h2 e.1
      · exact fun e => h1 e.1
      · rintro ⟨g1, rfl, _⟩
        exact h4 (par_mem g1)
  have hss : (s = !s) = False := by cases s <;> simp
  refine ⟨?_, ?_, ?_, ?_, ?_⟩
  · rw [mk_root]
    refine hc.hole hn.nc ?_ ?_ ?_
    · intro x hx
      rw [U, if_neg (by intro e; exact dc (e ▸ hx)), if_neg (by intro e; exact dn (e ▸ hx)), if_neg]
      rintro ⟨g1, rfl⟩
      exact dB _ (root_mem g1) hx
    · intro x hx he
      funext t
      rw [D, if_neg (by intro e; exact he e.2.1), if_neg (by intro e; exact dc (e.1 ▸ hx)), if_neg (by intro e; exact dn (e.1 ▸ hx))]
    · intro hp
      have m := par_mem hp
      constructor
      · rw [D, if_pos ⟨hp, rfl, rfl⟩]
      · rw [D, if_neg (by rintro ⟨_, _, e⟩; cases q : cx.side <;> simp [q] at e), if_neg (by intro e; exact dc (e.1 ▸ m)), if_neg (by intro e; exact dn (e.1 ▸ m))]
  · refine sh_mk.2 ⟨c0, by rw [U, if_pos rfl], ?_, ?_, sh_mk.2 ⟨n0, by rw [U, if_neg nc, if_pos rfl], ?_, ?_, ?_, ?_⟩, ?_⟩
    · rw [mk_root, D, if_neg (by intro e; exact dc (e.2.1 ▸ par_mem e.1)), if_pos ⟨rfl, rfl⟩]
    · rw [D, if_neg (by intro e; exact dc (e.2.1 ▸ par_mem e.1)), if_neg (by rintro ⟨_, e⟩; rw [← e] at hss; cases s <;> simp at e), if_neg (by intro e; exact nc e.1.symm)]; exact b2
    · rw [D, if_neg (by intro e; exact dn (e.2.1 ▸ par_mem e.1)), if_neg (by intro e; exact nc e.1), if_neg (by rintro ⟨_, e⟩; rw [hss] at e; exact e)]; exact a1
    · rw [D, if_neg (by intro e; exact dn (e.2.1 ▸ par_mem e.1)), if_neg (by intro e; exact nc e.1), if_pos ⟨rfl, rfl⟩]
    · exact sA.congr (fun x hx => same x (fun e => cA (e ▸ hx)) (fun e => q3 (e ▸ hx)) (AB x hx) (dA x hx))
    · refine sB.move r1 ?_ ?_ ?_
      · intro x hx
        funext t
        rw [D, if_neg (by intro e; exact dB x hx (e.2.1 ▸ par_mem e.1)), if_neg (by intro e; exact r3 (e.1 ▸ hx)), if_neg (by intro e; exact nB (e.1 ▸ hx))]
      · intro x hx he
        rw [U, if_neg (by intro e; exact r3 (e ▸ hx)), if_neg (by intro e; exact nB (e ▸ hx)), if_neg (by intro e; exact he e.2)]
      · intro hb
        have m := root_mem hb
        rw [U, if_neg (by intro e; exact r3 (e ▸ m)), if_neg (by intro e; exact nB (e ▸ m)), if_pos ⟨hb, rfl⟩]
    · exact sC.congr (fun x hx => same x (fun e => r4 (e ▸ hx)) (fun e => nC (e ▸ hx)) (fun e => r5 x e hx) (dC x hx))
  · have hm : ∀ x, x ∈ (mk s c (mk s n A B) C).list ↔ x ∈ (mk s n A (mk s c B C)).list := by
      intro x
      simp only [mem_mk]
      constructor
      · rintro (h | (h | h | h) | h) <;> simp [h]
      · rintro (h | h | (h | h | h)) <;> simp [h]
    refine ⟨nodup_mk.2 ⟨nodup_mk.2 ⟨q1, r1, q3, nB, AB⟩, r2, ?_, r4, ?_⟩, hn.nc, fun x hx => hn.d x ((hm x).1 hx), fun x hx => hn.bt x ((hm x).1 hx), hn.bc⟩
    · rw [mem_mk]
      rintro (e | e | e)
      · exact nc e.symm
      · exact cA e
      · exact r3 e
    · intro x hx
      rcases mem_mk.1 hx with rfl | e | e
      · exact nC
      · exact AC x e
      · exact r5 x e
  · rw [mk_root, ← hst', join_root]
    cases cx with
    | top => simp [Cx.par, Cx.rootOf]
    | fr s' p sib up =>
      rw [if_neg (show (Cx.fr s' p sib up).par ≠ 0 from hc.1), join_root, if_neg c0, join_root, if_neg n0, hr]
      rfl
  · rw [← hst']
    exact blank_join (blank_join (blank_join hz))
end Go.Proofs.YtjjdkkdnlnbedaaGreat


namespace Go.Proofs.YtjjdkkdnlnbedaaGreat

theorem rot_list (s : Bool) (n c : Nat) (A B C : Tr) : (mk s c (mk s n A B) C).list = (mk s n A (mk s c B C)).list := by
  cases s <;> simp [mk, Tr.list, List.append_assoc]
theorem plug_list {t t' : Tr} (h : t.list = t'.list) : ∀ cx : Cx, (cx.plug t).list = (cx.plug t').list
  | .top => h
  | .fr s p sib up => by
    rw [Cx.plug, Cx.plug]
    exact plug_list (by cases s <;> simp [mk, Tr.list, h]) up
theorem mk_flip (s : Bool) (p : Nat) (a b : Tr) : mk s p a b = mk (!s) p b a := by cases s <;> rfl

/-- What of a place is told outside: its key, its turn, whether it is filled. -/
def SameK (x y : Nd) : Prop := x.time = y.time ∧ x.seq = y.seq ∧ x.turn = y.turn ∧ x.filled = y.filled
/-- From one state to another one of the same keys; what isn't among L stays as it was. -/
structure Kept (L : List Nat) (st st' : St) : Prop where
  key : ∀ x, SameK (st'.nd x) (st.nd x)
  out : ∀ x, x ∉ L → st'.nd x = st.nd x
  free : st'.free = st.free
  count : st'.count = st.count
theorem Kept.refl (L : List Nat) (st : St) : Kept L st st := ⟨fun _ => ⟨rfl, rfl, rfl, rfl⟩, fun _ _ => rfl, rfl, rfl⟩
theorem Kept.trans {L : List Nat} {a b c : St} (h : Kept L a b) (k : Kept L b c) : Kept L a c :=
  ⟨fun x => ⟨(k.key x).1.trans (h.key x).1, (k.key x).2.1.trans (h.key x).2.1, (k.key x).2.2.1.trans (h.key x).2.2.1, (k.key x).2.2.2.trans (h.key x).2.2.2⟩,
   fun x hx => (k.out x hx).trans (h.out x hx), k.free.trans h.free, k.count.trans h.count⟩
theorem join_out (st : St) (up : Nat) (s : Bool) (n x : Nat) (h1 : n ≠ 0 → x ≠ n) (h2 : up ≠ 0 → x ≠ up) : (st.join up s n).nd x = st.nd x := by
  unfold St.join St.join1 setUp setDn setAt
  by_cases g1 : n = 0 <;> by_cases g2 : up = 0 <;> simp_all
theorem kept_join {L : List Nat} (st : St) (up : Nat) (s : Bool) (n : Nat) (h1 : n ≠ 0 → n ∈ L) (h2 : up ≠ 0 → up ∈ L) : Kept L st (st.join up s n) :=
  ⟨fun x => let d := join_data st up s n x; ⟨d.1, d.2.1, d.2.2.1, d.2.2.2.1⟩,
   fun x hx => join_out st up s n x (fun h e => hx (e ▸ h1 h)) (fun h e => hx (e ▸ h2 h)), (join_free st up s n).1, (join_free st up s n).2⟩
theorem kept_red {L : List Nat} (st : St) (i : Nat) (r : Bool) (h : i ∈ L) : Kept L st { st with nd := setRed st.nd i r } := by
  refine ⟨fun x => ?_, fun x hx => ?_, rfl, rfl⟩
  · unfold setRed setAt SameK
    by_cases e : x = i <;> simp [e]
  · show (if x = i then _ else st.nd x) = st.nd x
    rw [if_neg]
    intro e; exact hx (e ▸ h)

/-- All places of a tree and what is round it. -/
theorem mem_plug : ∀ (cx : Cx) (t : Tr) (x : Nat), x ∈ (cx.plug t).list ↔ x ∈ t.list ∨ x ∈ cx.places
  | .top, t, x => by simp [Cx.plug, Cx.places]
  | .fr s p sib up, t, x => by
    rw [Cx.plug, mem_plug up, mem_mk]
    simp only [Cx.places, List.mem_cons, List.mem_append]
    constructor
    · rintro ((h | h | h) | h) <;> simp [h]
    · rintro (h | h | h | h) <;> simp [h]

theorem kept_rot {P : Nat} {st : St} {cx : Cx} {s : Bool} {n c : Nat} {A B C : Tr} (h : Z P st cx (mk s n A (mk s c B C))) : Kept (cx.plug (mk s n A (mk s c B C))).list st (st.rot n s) := by
  obtain ⟨n0, hu, a1, a2, sA, sM⟩ := sh_mk.1 h.sh
  obtain ⟨c0, hcu, b1, b2, sB, sC⟩ := sh_mk.1 sM
  rw [mk_root] at a2
  have mt : ∀ x, x = n ∨ x = c ∨ x ∈ B.list ∨ x ∈ cx.places → x ∈ (cx.plug (mk s n A (mk s c B C))).list := by
    intro x hx
    rw [mem_plug, mem_mk, mem_mk]
    rcases hx with h | h | h | h <;> simp [h]
  unfold St.rot
  rw [a2, b1, hu]
  refine ((kept_join _ _ _ _ ?_ ?_).trans (kept_join _ _ _ _ ?_ ?_)).trans (kept_join _ _ _ _ ?_ ?_)
  · exact fun e => mt _ (Or.inr (Or.inr (Or.inl (root_mem e))))
  · exact fun _ => mt _ (Or.inl rfl)
  · exact fun _ => mt _ (Or.inl rfl)
  · exact fun _ => mt _ (Or.inr (Or.inl rfl))
  · exact fun _ => mt _ (Or.inr (Or.inl rfl))
  · exact fun e => mt _ (Or.inr (Or.inr (Or.inr (par_mem e))))

/-- Colours. -/
def col (st : St) : Nat → Bool := fun x => (st.nd x).red
theorem col_join (st : St) (up : Nat) (s : Bool) (n : Nat) : col (st.join up s n) = col st := by
  funext x; exact (join_data st up s n x).2.2.2.2
theorem col_rot (st : St) (n : Nat) (s : Bool) : col (st.rot n s) = col st := by
  unfold St.rot; rw [col_join, col_join, col_join]
def paint (c : Nat → Bool) (i : Nat) (r : Bool) : Nat → Bool := fun x => if x = i then r else c x
def St.paint (st : St) (i : Nat) (r : Bool) : St := { st with nd := setRed st.nd i r }
theorem col_paint (st : St) (i : Nat) (r : Bool) : col (st.paint i r) = Go.Proofs.YtjjdkkdnlnbedaaGreat.paint (col st) i r := by
  funext x
  unfold col St.paint setRed setAt Go.Proofs.YtjjdkkdnlnbedaaGreat.paint
  by_cases e : x = i <;> simp [e]
theorem paint_links (st : St) (i : Nat) (r : Bool) (x : Nat) : SameL ((st.paint i r).nd x) (st.nd x) := by
  unfold St.paint setRed setAt SameL
  by_cases e : x = i <;> simp [e]
theorem paint_z {P : Nat} {st : St} {cx : Cx} {t : Tr} (h : Z P st cx t) (i : Nat) (r : Bool) (hi : i ≠ 0) : Z P (st.paint i r) cx t := by
  refine ⟨h.shc.congr (fun x _ => paint_links st i r x), h.sh.congr (fun x _ => paint_links st i r x), h.nd, h.root, ?_⟩
  have : (st.paint i r).nd 0 = st.nd 0 := by
    unfold St.paint setRed setAt
    simp only
    rw [if_neg (fun e => hi e.symm)]
  rw [this]; exact h.zero

def redR (c : Nat → Bool) : Tr → Bool
  | .nil => false
  | .node p _ _ => c p
def RB (c : Nat → Bool) : Tr → Nat → Prop
  | .nil, k => k = 0
  | .node p l r, k => if c p = true then redR c l = false ∧ redR c r = false ∧ RB c l k ∧ RB c r k else ∃ j, k = j + 1 ∧ RB c l j ∧ RB c r j
def redC (c : Nat → Bool) : Cx → Bool
  | .top => false
  | .fr _ p _ _ => c p
def RBC (c : Nat → Bool) : Cx → Nat → Prop
  | .top, _ => True
  | .fr _ p sib up, k => RB c sib k ∧ (if c p = true then redR c sib = false ∧ redC c up = false ∧ RBC c up k else RBC c up (k + 1))
def topRed (c : Nat → Bool) : Cx → Bool → Bool
  | .top, b => b
  | .fr _ p _ up, _ => topRed c up (c p)

theorem redR_mk (c : Nat → Bool) (s : Bool) (p : Nat) (a b : Tr) : redR c (mk s p a b) = c p := by cases s <;> rfl
theorem rb_red {c : Nat → Bool} {s : Bool} {p k : Nat} {a b : Tr} (h : c p = true) : RB c (mk s p a b) k ↔ redR c a = false ∧ redR c b = false ∧ RB c a k ∧ RB c b k := by
  cases s
  · show (if c p = true then _ else _) ↔ _
    rw [if_pos h]
  · show (if c p = true then _ else _) ↔ _
    rw [if_pos h]
    constructor
    · rintro ⟨h1, h2, h3, h4⟩; exact ⟨h2, h1, h4, h3⟩
    · rintro ⟨h1, h2, h3, h4⟩; exact ⟨h2, h1, h4, h3⟩
theorem rb_black {c : Nat → Bool} {s : Bool} {p k : Nat} {a b : Tr} (h : c p = false) : RB c (mk s p a b) k ↔ ∃ j, k = j + 1 ∧ RB c a j ∧ RB c b j := by
  have h' : ¬ c p = true := by rw [h]; simp
  cases s
  · show (if c p = true then _ else _) ↔ _
    rw [if_neg h']
  · show (if c p = true then _ else _) ↔ _
    rw [if_neg h']
    constructor
    · rintro ⟨j, h1, h2, h3⟩; exact ⟨j, h1, h3, h2⟩
    · rintro ⟨j, h1, h2, h3⟩; exact ⟨j, h1, h3, h2⟩
theorem redR_plug (c : Nat → Bool) : ∀ (cx : Cx) (t : Tr), redR c (cx.plug t) = topRed c cx (redR c t)
  | .top, _ => rfl
  | .fr s p sib up, t => by rw [Cx.plug, redR_plug c up, redR_mk]; rfl
theorem rb_plug {c : Nat → Bool} : ∀ {cx : Cx} {t : Tr} {k : Nat}, RB c t k → RBC c cx k → (redR c t = false ∨ redC c cx = false) → ∃ K, RB c (cx.plug t) K
  | .top, t, k, h, _, _ => ⟨k, h⟩
  | .fr s p sib up, t, k, h, ⟨h1, h2⟩, h3 => by
    rw [Cx.plug]
    by_cases hp : c p = true
    · rw [if_pos hp] at h2
      obtain ⟨g1, g2, g3⟩ := h2
      have ht : redR c t = false := by
        rcases h3 with e | e
        · exact e
        · simp [redC, hp] at e
      exact rb_plug ((rb_red hp).2 ⟨ht, g1, h, h1⟩) g3 (Or.inr g2)
    · rw [if_neg hp] at h2
      have hp' : c p = false := by simpa using hp
      exact rb_plug ((rb_black hp').2 ⟨k, rfl, h, h1⟩) h2 (Or.inl (by rw [redR_mk]; exact hp'))
theorem RB.congr {c c' : Nat → Bool} : ∀ {t : Tr} {k : Nat}, RB c t k → (∀ x ∈ t.list, c' x = c x) → RB c' t k
  | .nil, _, h, _ => h
  | .node p l r, k, h, hs => by
    have hp := hs p (by simp [Tr.list])
    have hl : ∀ x ∈ l.list, c' x = c x := fun x hx => hs x (by simp [Tr.list, hx])
    have hr : ∀ x ∈ r.list, c' x = c x := fun x hx => hs x (by simp [Tr.list, hx])
    have rl : redR c' l = redR c l := by
      cases l with
      | nil => rfl
      | node q a b => exact hl q (by simp [Tr.list])
    have rr : redR c' r = redR c r := by
      cases r with
      | nil => rfl
      | node q a b => exact hr q (by simp [Tr.list])
    unfold RB at h ⊢
    rw [hp, rl, rr]
    split
    · rename_i e
      rw [if_pos e] at h
      exact ⟨h.1, h.2.1, h.2.2.1.congr hl, h.2.2.2.congr hr⟩
    · rename_i e
      rw [if_neg e] at h
      obtain ⟨j, h1, h2, h3⟩ := h
      exact ⟨j, h1, h2.congr hl, h3.congr hr⟩
theorem redR_congr {c c' : Nat → Bool} {t : Tr} (hs : ∀ x ∈ t.list, c' x = c x) : redR c' t = redR c t := by
  cases t with
  | nil => rfl
  | node q a b => exact hs q (by simp [Tr.list])
theorem redC_congr {c c' : Nat → Bool} {cx : Cx} (hs : ∀ x ∈ cx.places, c' x = c x) : redC c' cx = redC c cx := by
  cases cx with
  | top => rfl
  | fr s p sib up => exact hs p (by simp [Cx.places])
theorem topRed_congr {c c' : Nat → Bool} : ∀ {cx : Cx} {b : Bool}, (∀ x ∈ cx.places, c' x = c x) → topRed c' cx b = topRed c cx b
  | .top, _, _ => rfl
  | .fr s p sib up, b, hs => by
    show topRed c' up (c' p) = topRed c up (c p)
    rw [hs p (by simp [Cx.places])]
    exact topRed_congr (fun x hx => hs x (by simp [Cx.places, hx]))
theorem RBC.congr {c c' : Nat → Bool} : ∀ {cx : Cx} {k : Nat}, RBC c cx k → (∀ x ∈ cx.places, c' x = c x) → RBC c' cx k
  | .top, _, _, _ => trivial
  | .fr s p sib up, k, ⟨h1, h2⟩, hs => by
    have hp := hs p (by simp [Cx.places])
    have hsib : ∀ x ∈ sib.list, c' x = c x := fun x hx => hs x (by simp [Cx.places, hx])
    have hup : ∀ x ∈ up.places, c' x = c x := fun x hx => hs x (by simp [Cx.places, hx])
    refine ⟨h1.congr hsib, ?_⟩
    rw [hp, redR_congr hsib, redC_congr hup]
    split
    · rename_i e
      rw [if_pos e] at h2
      exact ⟨h2.1, h2.2.1, h2.2.2.congr hup⟩
    · rename_i e
      rw [if_neg e] at h2
      exact h2.congr hup
/-- A tree whose ways have as many black ones is balanced. -/
def Tr.least : Tr → Nat
  | .nil => 0
  | .node _ l r => min l.least r.least + 1
def Tr.most : Tr → Nat
  | .nil => 0
  | .node _ l r => max l.most r.most + 1
theorem rb_ways {c : Nat → Bool} : ∀ {t : Tr} {k : Nat}, RB c t k → k ≤ t.least ∧ t.most ≤ 2 * k + (if redR c t = true then 1 else 0)
  | .nil, k, h => by
    have : k = 0 := h
    subst this
    simp [Tr.least, Tr.most]
  | .node p l r, k, h => by
    unfold RB at h
    by_cases hp : c p = true
    · rw [if_pos hp] at h
      obtain ⟨h1, h2, h3, h4⟩ := h
      have a := rb_ways h3
      have b := rb_ways h4
      rw [h1] at a
      rw [h2] at b
      simp only [Bool.false_eq_true, if_false] at a b
      simp only [Tr.least, Tr.most, redR, hp, if_true]
      omega
    · rw [if_neg hp] at h
      obtain ⟨j, rfl, h3, h4⟩ := h
      have a := rb_ways h3
      have b := rb_ways h4
      have ha : (if redR c l = true then 1 else 0) ≤ 1 := by split <;> omega
      have hb : (if redR c r = true then 1 else 0) ≤ 1 := by split <;> omega
      rw [if_neg (show ¬ redR c (.node p l r) = true from hp)]
      simp only [Tr.least, Tr.most]
      omega
end Go.Proofs.YtjjdkkdnlnbedaaGreat


namespace Go.Proofs.YtjjdkkdnlnbedaaGreat

/-- A tree that is whole: its links, and its colours. -/
structure Good (P : Nat) (st : St) (t : Tr) : Prop where
  z : Z P st .top t
  rb : ∃ K, RB (col st) t K
  root : redR (col st) t = false
/-- All is well, but that a red node may hang on a red one, at one place; the root is black, but if it is there. -/
structure RedInv (P : Nat) (st : St) (cx : Cx) (n : Nat) (l r : Tr) (k : Nat) : Prop where
  z : Z P st cx (.node n l r)
  red : col st n = true
  rb : RB (col st) (.node n l r) k
  rbc : RBC (col st) cx k
  top : cx = .top ∨ topRed (col st) cx false = false

theorem paint_other (c : Nat → Bool) (i x : Nat) (r : Bool) (h : x ≠ i) : paint c i r x = c x := by unfold paint; rw [if_neg h]
theorem paint_at (c : Nat → Bool) (i : Nat) (r : Bool) : paint c i r i = r := by unfold paint; rw [if_pos rfl]

theorem red_top {P : Nat} {st : St} {n k : Nat} {l r : Tr} (h : RedInv P st .top n l r k) : Good P (st.paint n false) (.node n l r) := by
  have n0 : n ≠ 0 := h.z.sh.1
  have hnd := (nodup_mk (s := false)).1 h.z.nd.nt
  refine ⟨paint_z h.z n false n0, ⟨k + 1, ?_⟩, ?_⟩
  · rw [col_paint]
    obtain ⟨_, _, h3, h4⟩ := (rb_red (s := false) h.red).1 h.rb
    refine (rb_black (s := false) (paint_at _ _ _)).2 ⟨k, rfl, h3.congr ?_, h4.congr ?_⟩
    · intro x hx; exact paint_other _ _ _ _ (fun e => hnd.2.2.1 (e ▸ hx))
    · intro x hx; exact paint_other _ _ _ _ (fun e => hnd.2.2.2.1 (e ▸ hx))
  · rw [col_paint]; exact paint_at _ _ _

theorem top_of_fr {c : Nat → Bool} {s : Bool} {p : Nat} {sib : Tr} {up : Cx} (h : Cx.fr s p sib up = .top ∨ topRed c (.fr s p sib up) false = false) : topRed c up (c p) = false := by
  rcases h with h | h
  · cases h
  · exact h

/-- The parent is black: all is well; the root is painted black, as it is. -/
theorem red_done {P : Nat} {st : St} {cx : Cx} {n k : Nat} {l r : Tr} (h : RedInv P st cx n l r k) (hc : cx ≠ .top) (hb : redC (col st) cx = false) :
    Good P (st.paint st.root false) (cx.plug (.node n l r)) ∧ st.root ∈ (cx.plug (.node n l r)).list := by
  have hz := (z_top cx _).1 h.z
  have ht : redR (col st) (cx.plug (.node n l r)) = false := by
    rw [redR_plug]
    cases cx with
    | top => exact absurd rfl hc
    | fr s p sib up =>
      show topRed (col st) up (col st p) = false
      exact top_of_fr h.top
  have hr : st.root = (cx.plug (.node n l r)).root := hz.root
  have hne : (cx.plug (.node n l r)).root ≠ 0 := by
    rw [plug_root]
    cases cx with
    | top => exact absurd rfl hc
    | fr s p sib up =>
      have : ∀ (up : Cx) (q : Nat), q ≠ 0 → ShC st.nd up q → up.rootOf q ≠ 0 := by
        intro up
        induction up with
        | top => intro q hq _; exact hq
        | fr s' p' sib' up' ih => intro q _ hs; exact ih p' hs.1 hs.2.2.2.2.2
      exact this up p h.z.shc.1 h.z.shc.2.2.2.2.2
  have hcr : col st st.root = false := by
    rw [hr]
    cases hq : cx.plug (.node n l r) with
    | nil => rw [hq] at hne; exact absurd rfl hne
    | node q a b => rw [hq] at ht; exact ht
  have hcol : col (st.paint st.root false) = col st := by
    rw [col_paint]
    funext x
    by_cases e : x = st.root
    · subst e; rw [paint_at, hcr]
    · rw [paint_other _ _ _ _ e]
  refine ⟨⟨paint_z hz _ _ (by rw [hr]; exact hne), ?_, by rw [hcol]; exact ht⟩, by rw [hr]; exact root_mem hne⟩
  rw [hcol]
  exact rb_plug h.rb h.rbc (Or.inr hb)

/-- A red parent hangs on a black node: what is round. -/
theorem red_up {P : Nat} {st : St} {s : Bool} {p : Nat} {sib : Tr} {up : Cx} {n k : Nat} {l r : Tr} (h : RedInv P st (.fr s p sib up) n l r k) (hp : col st p = true) :
    ∃ s2 g unc cx2, up = .fr s2 g unc cx2 ∧ col st g = false ∧ RB (col st) sib k ∧ redR (col st) sib = false ∧ RB (col st) unc k ∧ RBC (col st) cx2 (k + 1) ∧ (cx2 = .top ∨ topRed (col st) cx2 false = false) := by
  obtain ⟨h1, h2⟩ := h.rbc
  rw [if_pos hp] at h2
  obtain ⟨g1, g2, g3⟩ := h2
  have ht := top_of_fr h.top
  cases up with
  | top => rw [hp] at ht; cases ht
  | fr s2 g unc cx2 =>
    have hg : col st g = false := g2
    obtain ⟨q1, q2⟩ := g3
    rw [if_neg (by rw [hg]; simp)] at q2
    refine ⟨s2, g, unc, cx2, rfl, hg, h1, g1, q1, q2, ?_⟩
    cases cx2 with
    | top => exact Or.inl rfl
    | fr s3 p3 sib3 up3 => exact Or.inr ht

/-- The places of what is below a node whose parent and grandparent are named. -/
theorem apart {P : Nat} {st : St} {s1 s2 : Bool} {p g : Nat} {t sib unc : Tr} {cx2 : Cx} (h : Z P st (.fr s1 p sib (.fr s2 g unc cx2)) t) :
    p ≠ g ∧ p ∉ t.list ∧ g ∉ t.list ∧ p ∉ sib.list ∧ g ∉ sib.list ∧ p ∉ unc.list ∧ g ∉ unc.list ∧ p ∉ cx2.places ∧ g ∉ cx2.places ∧
    (∀ x ∈ t.list, x ∉ sib.list ∧ x ∉ unc.list ∧ x ∉ cx2.places) ∧ (∀ x ∈ sib.list, x ∉ unc.list ∧ x ∉ cx2.places) ∧ (∀ x ∈ unc.list, x ∉ cx2.places) := by
  have hn := h.nd
  have hd := hn.d
  have hc := hn.nc
  simp only [Cx.places, List.mem_cons, List.mem_append, not_or, List.nodup_cons, List.nodup_append] at hd hc
  obtain ⟨⟨c1, c2, c3, c4⟩, c5, ⟨⟨c6, c7⟩, c8, c9, c10⟩, c11⟩ := hc
  refine ⟨c2, fun e => (hd p e).1 rfl, fun e => (hd g e).2.2.1 rfl, c1, fun e => c11 g e g (Or.inl rfl) rfl, c3, c6, c4, c7, fun x hx => ⟨(hd x hx).2.1, (hd x hx).2.2.2.1, (hd x hx).2.2.2.2⟩, fun x hx => ⟨fun e => c11 x hx x (Or.inr (Or.inl e)) rfl, fun e => c11 x hx x (Or.inr (Or.inr e)) rfl⟩, fun x hx e => c10 x hx x e rfl⟩

/-- The uncle is red: three are painted, and it goes on two above. -/
theorem red_climb {P : Nat} {st : St} {s1 s2 : Bool} {p g : Nat} {sib unc : Tr} {cx2 : Cx} {n k : Nat} {l r : Tr} (h : RedInv P st (.fr s1 p sib (.fr s2 g unc cx2)) n l r k) (hp : col st p = true) (hu : redR (col st) unc = true) :
    ∃ l' r', RedInv P (((st.paint p false).paint unc.root false).paint g true) cx2 g l' r' (k + 1) ∧ cx2.plug (.node g l' r') = (Cx.fr s1 p sib (.fr s2 g unc cx2)).plug (.node n l r) := by
  obtain ⟨s2', g', unc', cx2', e, hg, q1, q2, q3, q4, q5⟩ := red_up h hp
  cases e
  obtain ⟨a1, a2, a3, a4, a5, a6, a7, a8, a9, a10, a11, a12⟩ := apart h.z
  have hz2 := z_move.2 (z_move.2 h.z)
  have g0 : g ≠ 0 := h.z.shc.2.2.2.2.2.1
  have p0 : p ≠ 0 := h.z.shc.1
  cases unc with
  | nil => cases hu
  | node ur ua ub =>
    have hur : col st ur = true := hu
    have ur0 : ur ≠ 0 := h.z.shc.2.2.2.2.2.2.2.2.2.1.1
    have hund : (mk false ur ua ub).list.Nodup := by
      have := h.z.nd.nc
      simp only [Cx.places, List.nodup_cons, List.nodup_append] at this
      exact this.2.2.1.2.1
    obtain ⟨_, _, ua', ub', _⟩ := nodup_mk.1 hund
    have urm : ur ∈ (Tr.node ur ua ub).list := by simp [Tr.list]
    have hpur : p ≠ ur := fun e => a6 (e ▸ urm)
    have hgur : g ≠ ur := fun e => a7 (e ▸ urm)
    have hcol : ∀ x, x ≠ p → x ≠ ur → x ≠ g → col (((st.paint p false).paint ur false).paint g true) x = col st x := by
      intro x h1 h2 h3
      rw [col_paint, paint_other _ _ _ _ h3, col_paint, paint_other _ _ _ _ h2, col_paint, paint_other _ _ _ _ h1]
    have cp : col (((st.paint p false).paint ur false).paint g true) p = false := by
      rw [col_paint, paint_other _ _ _ _ a1, col_paint, paint_other _ _ _ _ hpur, col_paint, paint_at]
    have cu : col (((st.paint p false).paint ur false).paint g true) ur = false := by
      rw [col_paint, paint_other _ _ _ _ (fun e => hgur e.symm), col_paint, paint_at]
    have cg : col (((st.paint p false).paint ur false).paint g true) g = true := by
      rw [col_paint, paint_at]
    have key : RB (col (((st.paint p false).paint ur false).paint g true)) (mk s2 g (mk s1 p (.node n l r) sib) (.node ur ua ub)) (k + 1) := by
      refine (rb_red cg).2 ⟨by rw [redR_mk]; exact cp, cu, (rb_black cp).2 ⟨k, rfl, h.rb.congr ?_, q1.congr ?_⟩, ?_⟩
      · intro x hx
        exact hcol x (fun e => a2 (e ▸ hx)) (fun e => (a10 x hx).2.1 (e ▸ urm)) (fun e => a3 (e ▸ hx))
      · intro x hx
        exact hcol x (fun e => a4 (e ▸ hx)) (fun e => (a11 x hx).1 (e ▸ urm)) (fun e => a5 (e ▸ hx))
      · obtain ⟨_, _, u3, u4⟩ := (rb_red (s := false) hur).1 q3
        refine (rb_black (s := false) cu).2 ⟨k, rfl, u3.congr ?_, u4.congr ?_⟩
        · intro x hx
          have hm : x ∈ (Tr.node ur ua ub).list := by simp [Tr.list, hx]
          exact hcol x (fun e => a6 (e ▸ hm)) (fun e => ua' (e ▸ hx)) (fun e => a7 (e ▸ hm))
        · intro x hx
          have hm : x ∈ (Tr.node ur ua ub).list := by simp [Tr.list, hx]
          exact hcol x (fun e => a6 (e ▸ hm)) (fun e => ub' (e ▸ hx)) (fun e => a7 (e ▸ hm))
    have kc : ∀ x ∈ cx2.places, col (((st.paint p false).paint ur false).paint g true) x = col st x := by
      intro x hx
      exact hcol x (fun e => a8 (e ▸ hx)) (fun e => a12 ur urm (e ▸ hx)) (fun e => a9 (e ▸ hx))
    have kz : Z P (((st.paint p false).paint ur false).paint g true) cx2 (mk s2 g (mk s1 p (.node n l r) sib) (.node ur ua ub)) :=
      paint_z (paint_z (paint_z hz2 p false p0) ur false ur0) g true g0
    have kt : cx2 = .top ∨ topRed (col (((st.paint p false).paint ur false).paint g true)) cx2 false = false := by
      rcases q5 with e | e
      · exact Or.inl e
      · exact Or.inr (by rw [topRed_congr kc]; exact e)
    cases s2
    · exact ⟨_, _, ⟨kz, cg, key, q4.congr kc, kt⟩, rfl⟩
    · exact ⟨_, _, ⟨kz, cg, key, q4.congr kc, kt⟩, rfl⟩

/-- The uncle is black, and the node is on its parent's own side: two are painted, and the grandparent goes down. -/
theorem red_turn {P : Nat} {st : St} {s2 : Bool} {p g : Nat} {X Y unc : Tr} {cx2 : Cx} {k : Nat}
    (hz : Z P st cx2 (mk s2 g (mk s2 p X Y) unc)) (rX : RB (col st) X k) (rY : RB (col st) Y k) (cY : redR (col st) Y = false) (ru : RB (col st) unc k) (cu : redR (col st) unc = false)
    (rbc : RBC (col st) cx2 (k + 1)) (tp : cx2 = .top ∨ topRed (col st) cx2 false = false) :
    Z P ((st.paint p false).paint g true) cx2 (mk (!s2) g unc (mk (!s2) p Y X)) ∧ Good P (((st.paint p false).paint g true).rot g (!s2)) (cx2.plug (mk (!s2) p (mk (!s2) g unc Y) X)) := by
  obtain ⟨g0, _, _, _, sM, _⟩ := sh_mk.1 hz.sh
  obtain ⟨p0, _, _, _, _, _⟩ := sh_mk.1 sM
  obtain ⟨n1, n2, n3, n4, n5⟩ := nodup_mk.1 hz.nd.nt
  obtain ⟨m1, m2, m3, m4, m5⟩ := nodup_mk.1 n1
  have hpg : p ≠ g := fun e => n3 (e ▸ mem_mk.2 (Or.inl rfl))
  have hcol : ∀ x, x ≠ p → x ≠ g → col ((st.paint p false).paint g true) x = col st x := by
    intro x h1 h2
    rw [col_paint, paint_other _ _ _ _ h2, col_paint, paint_other _ _ _ _ h1]
  have cp : col ((st.paint p false).paint g true) p = false := by rw [col_paint, paint_other _ _ _ _ hpg, col_paint, paint_at]
  have cg : col ((st.paint p false).paint g true) g = true := by rw [col_paint, paint_at]
  have kz : Z P ((st.paint p false).paint g true) cx2 (mk (!s2) g unc (mk (!s2) p Y X)) := by
    have := paint_z (paint_z hz p false p0) g true g0
    rw [mk_flip s2 g, mk_flip s2 p] at this
    exact this
  have kX : ∀ x ∈ X.list, col ((st.paint p false).paint g true) x = col st x := fun x hx => hcol x (fun e => m3 (e ▸ hx)) (fun e => n3 (e ▸ mem_mk.2 (Or.inr (Or.inl hx))))
  have kY : ∀ x ∈ Y.list, col ((st.paint p false).paint g true) x = col st x := fun x hx => hcol x (fun e => m4 (e ▸ hx)) (fun e => n3 (e ▸ mem_mk.2 (Or.inr (Or.inr hx))))
  have ku : ∀ x ∈ unc.list, col ((st.paint p false).paint g true) x = col st x := fun x hx => hcol x (fun e => n5 p (mem_mk.2 (Or.inl rfl)) (e ▸ hx)) (fun e => n4 (e ▸ hx))
  have kc : ∀ x ∈ cx2.places, col ((st.paint p false).paint g true) x = col st x := fun x hx => hcol x (fun e => hz.nd.d p (mem_mk.2 (Or.inr (Or.inl (mem_mk.2 (Or.inl rfl))))) (e ▸ hx)) (fun e => hz.nd.d g (mem_mk.2 (Or.inl rfl)) (e ▸ hx))
  refine ⟨kz, ?_⟩
  have key : RB (col ((st.paint p false).paint g true)) (mk (!s2) p (mk (!s2) g unc Y) X) (k + 1) := by
    refine (rb_black cp).2 ⟨k, rfl, (rb_red cg).2 ⟨?_, ?_, ru.congr ku, rY.congr kY⟩, rX.congr kX⟩
    · rw [redR_congr ku]; exact cu
    · rw [redR_congr kY]; exact cY
  refine ⟨(z_top _ _).1 (rot_z kz), ?_, ?_⟩
  · rw [col_rot]
    exact rb_plug key (rbc.congr kc) (Or.inl (by rw [redR_mk]; exact cp))
  · rw [col_rot, redR_plug, redR_mk, cp]
    rcases tp with rfl | e
    · rfl
    · rw [topRed_congr kc]; exact e
end Go.Proofs.YtjjdkkdnlnbedaaGreat


namespace Go.Proofs.YtjjdkkdnlnbedaaGreat

/-- Is a key ordered ahead of another one? -/
def klt (t1 s1 t2 s2 : Int) : Bool := if t1 = t2 then decide (s1 < s2) else decide (t1 < t2)
/-- Is the key of a place ordered ahead of that of another one? -/
def kle (st : St) (a b : Nat) : Bool := klt (st.nd a).time (st.nd a).seq (st.nd b).time (st.nd b).seq
/-- The way down that a key takes. -/
def Path (st : St) (n : Nat) : Cx → Prop
  | .top => True
  | .fr s p _ up => kle st n p = (!s) ∧ Path st n up

theorem klt_iff {a b c d : Int} : klt a b c d = true ↔ a < c ∨ (a = c ∧ b < d) := by
  unfold klt
  by_cases h : a = c
  · rw [if_pos h, decide_eq_true_eq]
    constructor
    · intro q; exact Or.inr ⟨h, q⟩
    · rintro (q | q)
      · omega
      · exact q.2
  · rw [if_neg h, decide_eq_true_eq]
    constructor
    · intro q; exact Or.inl q
    · rintro (q | q)
      · exact q
      · exact absurd q.1 h
theorem klt_not {a b c d : Int} : klt a b c d = false ↔ c < a ∨ (a = c ∧ d ≤ b) := by
  rw [← Bool.not_eq_true, klt_iff]
  omega
theorem kle_lt {st : St} {a b c : Nat} (h1 : kle st a b = true) (h2 : kle st c b = false) : kle st a c = true := by
  unfold kle at *
  rw [klt_iff] at *
  rw [klt_not] at h2
  omega
theorem kle_le {st : St} {a b c : Nat} (h1 : kle st a b = false) (h2 : kle st b c = false) : kle st a c = false := by
  unfold kle at *
  rw [klt_not] at *
  omega

def Cx.pre : Cx → List Nat
  | .top => []
  | .fr true p sib up => up.pre ++ (sib.list ++ [p])
  | .fr false _ _ up => up.pre
def Cx.post : Cx → List Nat
  | .top => []
  | .fr false p sib up => (p :: sib.list) ++ up.post
  | .fr true _ _ up => up.post
theorem plug_pp : ∀ (cx : Cx) (t : Tr), (cx.plug t).list = cx.pre ++ (t.list ++ cx.post)
  | .top, t => by simp [Cx.plug, Cx.pre, Cx.post]
  | .fr true p sib up, t => by
    rw [Cx.plug, plug_pp up]
    simp [mk, Tr.list, Cx.pre, Cx.post, List.append_assoc]
  | .fr false p sib up, t => by
    rw [Cx.plug, plug_pp up]
    simp [mk, Tr.list, Cx.pre, Cx.post, List.append_assoc]

/-- None is ordered ahead of one that stands ahead of it. -/
def Srt (st : St) (L : List Nat) : Prop := L.Pairwise (fun a b => kle st b a = false)
theorem path_pre {st : St} {n : Nat} : ∀ {cx : Cx}, Path st n cx → Srt st (cx.pre ++ cx.post) → (∀ x ∈ cx.pre, kle st n x = false) ∧ (∀ x ∈ cx.post, kle st n x = true)
  | .top, _, _ => by simp [Cx.pre, Cx.post]
  | .fr true p sib up, ⟨h1, h2⟩, hs => by
    simp only [Cx.pre, Cx.post] at hs ⊢
    have hs' : Srt st (up.pre ++ up.post) := by
      refine List.Pairwise.sublist ?_ hs
      rw [List.append_assoc]
      exact List.Sublist.append (List.Sublist.refl _) (List.sublist_append_right _ _)
    obtain ⟨i1, i2⟩ := path_pre h2 hs'
    refine ⟨?_, i2⟩
    intro x hx
    simp only [List.mem_append, List.mem_cons, List.not_mem_nil, or_false] at hx
    rcases hx with hx | hx | rfl
    · exact i1 x hx
    · unfold Srt at hs
      rw [List.pairwise_append, List.pairwise_append, List.pairwise_append] at hs
      have := hs.1.2.1.2.2 x hx p (by simp)
      cases q : kle st n x with
      | false => rfl
      | true =>
        have := kle_lt q this
        rw [h1] at this
        cases this
    · exact h1
  | .fr false p sib up, ⟨h1, h2⟩, hs => by
    simp only [Cx.pre, Cx.post] at hs ⊢
    have hs' : Srt st (up.pre ++ up.post) := by
      refine List.Pairwise.sublist ?_ hs
      exact List.Sublist.append (List.Sublist.refl _) (List.sublist_append_right _ _)
    obtain ⟨i1, i2⟩ := path_pre h2 hs'
    refine ⟨i1, ?_⟩
    intro x hx
    simp only [List.mem_append, List.mem_cons] at hx
    rcases hx with (rfl | hx) | hx
    · exact h1
    · unfold Srt at hs
      rw [List.pairwise_append, List.pairwise_append, List.pairwise_cons] at hs
      have := hs.2.1.1.1 x hx
      exact kle_lt h1 this
    · exact i2 x hx

theorem rb_unplug {c : Nat → Bool} : ∀ {cx : Cx} {t : Tr} {K : Nat}, RB c (cx.plug t) K → ∃ k, RB c t k ∧ RBC c cx k ∧ (redR c t = false ∨ redC c cx = false)
  | .top, t, K, h => ⟨K, h, trivial, Or.inr rfl⟩
  | .fr s p sib up, t, K, h => by
    obtain ⟨k, h1, h2, h3⟩ := rb_unplug (cx := up) h
    by_cases hp : c p = true
    · obtain ⟨g1, g2, g3, g4⟩ := (rb_red hp).1 h1
      refine ⟨k, g3, ⟨g4, ?_⟩, Or.inl g1⟩
      rw [if_pos hp]
      rw [redR_mk, hp] at h3
      refine ⟨g2, ?_, h2⟩
      rcases h3 with e | e
      · cases e
      · exact e
    · have hp' : c p = false := by simpa using hp
      obtain ⟨j, rfl, g3, g4⟩ := (rb_black hp').1 h1
      refine ⟨j, g3, ⟨g4, ?_⟩, Or.inr hp'⟩
      rw [if_neg hp]
      exact h2

/-- The empty places hang on each other. -/
def Chain (nd : Nat → Nd) : Nat → List Nat → Prop
  | f, [] => f = 0
  | f, x :: xs => f = x ∧ x ≠ 0 ∧ Chain nd ((nd x).dn false) xs
theorem Chain.congr {nd nd' : Nat → Nd} : ∀ {f : Nat} {l : List Nat}, Chain nd f l → (∀ x ∈ l, nd' x = nd x) → Chain nd' f l
  | _, [], h, _ => h
  | _, x :: xs, ⟨h1, h2, h3⟩, hs => ⟨h1, h2, by
    rw [hs x (by simp)]
    exact h3.congr (fun y hy => hs y (by simp [hy]))⟩

structure Inv (P : Nat) (st : St) (t : Tr) (fl : List Nat) : Prop where
  good : Good P st t
  srt : Srt st t.list
  fil : ∀ x, x ≤ P → ((st.nd x).filled = true ↔ x ∈ t.list)
  chain : Chain st.nd st.free fl
  fnd : fl.Nodup
  fbd : ∀ x ∈ fl, x ≠ 0 ∧ x ≤ P ∧ x ∉ t.list
  cover : t.list.length + fl.length = P
  count : st.count = t.list.length

def fresh (a b tu : Int) : Nd := ⟨a, b, tu, true, true, 0, fun _ => 0⟩
/-- The state in which the new node has its key, and does not hang yet. -/
def St.fill (st : St) (n : Nat) (a b : Int) : St := ⟨setAt st.nd n (fresh a b ((st.nd n).turn + 1)), st.root, (st.nd n).dn false, st.count + 1⟩

theorem fill_at (st : St) (n : Nat) (a b : Int) : (st.fill n a b).nd n = fresh a b ((st.nd n).turn + 1) := by unfold St.fill setAt; simp
theorem fill_other (st : St) (n : Nat) (a b : Int) (x : Nat) (h : x ≠ n) : (st.fill n a b).nd x = st.nd x := by unfold St.fill setAt; simp [h]

theorem fill_z {P : Nat} {st : St} {t : Tr} {n : Nat} {a b : Int} (hz : Z P st .top t) (hn : n ∉ t.list) (n0 : n ≠ 0) : Z P (st.fill n a b) .top t := by
  refine ⟨trivial, hz.sh.congr ?_, hz.nd, hz.root, ?_⟩
  · intro x hx
    rw [fill_other _ _ _ _ _ (show x ≠ n from fun e => hn (e ▸ hx))]
    exact ⟨rfl, rfl⟩
  · rw [fill_other _ _ _ _ _ (fun e => n0 e.symm)]; exact hz.zero

theorem put_red {P : Nat} {st : St} {t : Tr} {fl : List Nat} {n : Nat} {a b : Int} {cx : Cx} (hi : Inv P st t (n :: fl)) (hc : cx.plug .nil = t) :
    RedInv P ((st.fill n a b).join cx.par cx.side n) cx n .nil .nil 0 := by
  obtain ⟨n0, nP, nt⟩ := hi.fbd n (by simp)
  have hz2 : Z P (st.fill n a b) .top t := fill_z hi.good.z nt n0
  have hzc : Z P (st.fill n a b) cx .nil := by rw [z_top, hc]; exact hz2
  have nc : n ∉ cx.places := by
    intro e
    apply nt
    rw [← hc, mem_plug]
    exact Or.inr e
  have hnd : ND P (.node n .nil .nil) cx := by
    refine ⟨by simp [Tr.list], hzc.nd.nc, ?_, ?_, hzc.nd.bc⟩
    · intro x hx; simp [Tr.list] at hx; subst hx; exact nc
    · intro x hx; simp [Tr.list] at hx; subst hx; exact nP
  have hsh : Sh (st.fill n a b).nd (.node n .nil .nil) 0 := by
    refine ⟨n0, ?_, ?_, ?_, trivial, trivial⟩ <;> rw [fill_at] <;> rfl
  have hcol : ∀ x, x ≠ n → col ((st.fill n a b).join cx.par cx.side n) x = col st x := by
    intro x hx
    rw [col_join]
    show ((st.fill n a b).nd x).red = _
    rw [fill_other _ _ _ _ _ hx]; rfl
  have hred : col ((st.fill n a b).join cx.par cx.side n) n = true := by
    rw [col_join]
    show ((st.fill n a b).nd n).red = true
    rw [fill_at]; rfl
  have hcc : ∀ x ∈ cx.places, col ((st.fill n a b).join cx.par cx.side n) x = col st x := fun x hx => hcol x (fun e => nc (e ▸ hx))
  obtain ⟨K, hK⟩ := hi.good.rb
  rw [← hc] at hK
  obtain ⟨k, g1, g2, _⟩ := rb_unplug hK
  have k0 : k = 0 := g1
  subst k0
  refine ⟨graft hzc.shc hzc.root hzc.zero hsh hnd, hred, ?_, g2.congr hcc, ?_⟩
  · exact (rb_red (s := false) hred).2 ⟨rfl, rfl, rfl, rfl⟩
  · have := hi.good.root
    rw [← hc, redR_plug] at this
    rw [topRed_congr hcc]
    exact Or.inr this

theorem put_inv {P : Nat} {st : St} {t : Tr} {fl : List Nat} {n : Nat} {a b : Int} {cx : Cx} (hi : Inv P st t (n :: fl)) (hc : cx.plug .nil = t) (hp : Path (st.fill n a b) n cx)
    {st' : St} {t' : Tr} (hg : Good P st' t') (hl : t'.list = (cx.plug (.node n .nil .nil)).list) (hk : Kept (cx.plug (.node n .nil .nil)).list ((st.fill n a b).join cx.par cx.side n) st') :
    Inv P st' t' fl ∧ t'.list = cx.pre ++ n :: cx.post ∧ t.list = cx.pre ++ cx.post ∧ (∀ x ∈ cx.pre, kle st' n x = false) ∧ (∀ x ∈ cx.post, kle st' n x = true) ∧
      SameK (st'.nd n) (fresh a b ((st.nd n).turn + 1)) ∧ (∀ x, x ≠ n → SameK (st'.nd x) (st.nd x)) := by
  obtain ⟨n0, nP, nt⟩ := hi.fbd n (by simp)
  have hfn := List.nodup_cons.1 hi.fnd
  have l1 : t'.list = cx.pre ++ n :: cx.post := by rw [hl, plug_pp]; simp [Tr.list]
  have l2 : t.list = cx.pre ++ cx.post := by rw [← hc, plug_pp]; simp [Tr.list]
  have kn : SameK (st'.nd n) (fresh a b ((st.nd n).turn + 1)) := by
    have h1 := hk.key n
    have h2 := join_data (st.fill n a b) cx.par cx.side n n
    rw [fill_at] at h2
    exact ⟨h1.1.trans h2.1, h1.2.1.trans h2.2.1, h1.2.2.1.trans h2.2.2.1, h1.2.2.2.trans h2.2.2.2.1⟩
  have kx : ∀ x, x ≠ n → SameK (st'.nd x) (st.nd x) := by
    intro x hx
    have h1 := hk.key x
    have h2 := join_data (st.fill n a b) cx.par cx.side n x
    rw [fill_other _ _ _ _ _ hx] at h2
    exact ⟨h1.1.trans h2.1, h1.2.1.trans h2.2.1, h1.2.2.1.trans h2.2.2.1, h1.2.2.2.trans h2.2.2.2.1⟩
  have n2 : ∀ x ∈ t.list, x ≠ n := fun x hx e => nt (e ▸ hx)
  have kl1 : ∀ x ∈ t.list, ∀ y ∈ t.list, kle st' x y = kle st x y := by
    intro x hx y hy
    unfold kle
    rw [(kx x (n2 x hx)).1, (kx x (n2 x hx)).2.1, (kx y (n2 y hy)).1, (kx y (n2 y hy)).2.1]
  have kl2 : ∀ x ∈ t.list, kle st' n x = kle (st.fill n a b) n x := by
    intro x hx
    unfold kle
    rw [(kx x (n2 x hx)).1, (kx x (n2 x hx)).2.1, kn.1, kn.2.1, fill_at, fill_other _ _ _ _ _ (n2 x hx)]
  have kl3 : ∀ x ∈ t.list, ∀ y ∈ t.list, kle (st.fill n a b) x y = kle st x y := by
    intro x hx y hy
    unfold kle
    rw [fill_other _ _ _ _ _ (n2 x hx), fill_other _ _ _ _ _ (n2 y hy)]
  have hs0 : Srt (st.fill n a b) (cx.pre ++ cx.post) := by
    have := hi.srt
    rw [l2] at this
    refine List.Pairwise.imp_of_mem ?_ this
    intro x y hx hy h
    rw [kl3 y (by rw [l2]; exact hy) x (by rw [l2]; exact hx)]; exact h
  obtain ⟨p1, p2⟩ := path_pre hp hs0
  have q1 : ∀ x ∈ cx.pre, kle st' n x = false := fun x hx => by rw [kl2 x (by rw [l2]; simp [hx])]; exact p1 x hx
  have q2 : ∀ x ∈ cx.post, kle st' n x = true := fun x hx => by rw [kl2 x (by rw [l2]; simp [hx])]; exact p2 x hx
  refine ⟨⟨hg, ?_, ?_, ?_, hfn.2, ?_, ?_, ?_⟩, l1, l2, q1, q2, kn, kx⟩
  · rw [l1]
    have hs := hi.srt
    rw [l2] at hs
    unfold Srt at hs ⊢
    rw [List.pairwise_append] at hs
    rw [List.pairwise_append, List.pairwise_cons]
    obtain ⟨s1, s2, s3⟩ := hs
    have m1 : ∀ x ∈ cx.pre, x ∈ t.list := fun x hx => by rw [l2]; simp [hx]
    have m2 : ∀ x ∈ cx.post, x ∈ t.list := fun x hx => by rw [l2]; simp [hx]
    refine ⟨List.Pairwise.imp_of_mem (fun hx hy h => by rw [kl1 _ (m1 _ hy) _ (m1 _ hx)]; exact h) s1, ⟨?_, List.Pairwise.imp_of_mem (fun hx hy h => by rw [kl1 _ (m2 _ hy) _ (m2 _ hx)]; exact h) s2⟩, ?_⟩
    · intro y hy
      have := q2 y hy
      unfold kle at this ⊢
      rw [klt_iff] at this
      rw [klt_not]
      omega
    · intro x hx y hy
      rcases List.mem_cons.1 hy with rfl | hy
      · exact q1 x hx
      · rw [kl1 _ (m2 _ hy) _ (m1 _ hx)]
        exact s3 x hx y hy
  · intro x hx
    rw [l1]
    by_cases e : x = n
    · subst e
      have : (st'.nd x).filled = true := kn.2.2.2
      simp [this]
    · rw [(kx x e).2.2.2, hi.fil x hx, l2]
      simp [e]
  · have hf : st'.free = (st.nd n).dn false := by
      rw [hk.free, (join_free _ _ _ _).1]; rfl
    rw [hf]
    refine hi.chain.2.2.congr ?_
    intro x hx
    have xn : x ≠ n := fun e => hfn.1 (e ▸ hx)
    have xt : x ∉ t.list := (hi.fbd x (by simp [hx])).2.2
    have xl : x ∉ (cx.plug (.node n .nil .nil)).list := by
      rw [mem_plug]
      simp only [Tr.list, List.nil_append, List.mem_cons, List.not_mem_nil, or_false]
      rintro (e | e)
      · exact xn e
      · apply xt; rw [← hc, mem_plug]; exact Or.inr e
    rw [hk.out x xl, join_out, fill_other _ _ _ _ _ xn]
    · exact fun _ => xn
    · intro hpar e
      apply xt
      rw [← hc, mem_plug]
      exact Or.inr (e ▸ par_mem hpar)
  · intro x hx
    obtain ⟨b1, b2, b3⟩ := hi.fbd x (by simp [hx])
    refine ⟨b1, b2, ?_⟩
    rw [l1]
    rw [l2] at b3
    simp only [List.mem_append, List.mem_cons, not_or] at b3 ⊢
    exact ⟨b3.1, fun e => hfn.1 (e ▸ hx), b3.2⟩
  · have := hi.cover
    rw [l1]
    rw [l2] at this
    simp only [List.length_append, List.length_cons] at this ⊢
    omega
  · rw [hk.count, (join_free _ _ _ _).2, l1]
    have := hi.count
    rw [l2] at this
    show st.count + 1 = _
    simp only [List.length_append, List.length_cons] at this ⊢
    omega
end Go.Proofs.YtjjdkkdnlnbedaaGreat


namespace Go.Proofs.YtjjdkkdnlnbedaaGreat

/-- As RB, but that a red root may have red ones below. -/
def RBw (c : Nat → Bool) : Tr → Nat → Prop
  | .nil, k => k = 0
  | .node p l r, k => if c p = true then RB c l k ∧ RB c r k else ∃ j, k = j + 1 ∧ RB c l j ∧ RB c r j
theorem rbw_node (c : Nat → Bool) (p : Nat) (l r : Tr) (k : Nat) : RBw c (.node p l r) k = (if c p = true then RB c l k ∧ RB c r k else ∃ j, k = j + 1 ∧ RB c l j ∧ RB c r j) := rfl
theorem RB.weak {c : Nat → Bool} : ∀ {t : Tr} {k : Nat}, RB c t k → RBw c t k
  | .nil, _, h => h
  | .node p l r, k, h => by
    unfold RB at h
    rw [rbw_node]
    split
    · rename_i e; rw [if_pos e] at h; exact ⟨h.2.2.1, h.2.2.2⟩
    · rename_i e; rw [if_neg e] at h; exact h
theorem RBw.strong {c : Nat → Bool} {t : Tr} {k : Nat} (h : RBw c t k) (hr : redR c t = false) : RB c t k := by
  cases t with
  | nil => exact h
  | node p l r =>
    have hp : ¬ c p = true := by have : c p = false := hr; rw [this]; simp
    rw [rbw_node, if_neg hp] at h
    unfold RB
    rw [if_neg hp]; exact h
theorem rbw_mk {c : Nat → Bool} {s : Bool} {p k : Nat} {a b : Tr} (h : RB c a k ∧ RB c b k) (hp : c p = true) : RBw c (mk s p a b) k := by
  cases s
  · show (if c p = true then _ else _)
    rw [if_pos hp]; exact h
  · show (if c p = true then _ else _)
    rw [if_pos hp]; exact ⟨h.2, h.1⟩

/-- The ways through what is at the hole have a black one less. -/
structure BlackInv (P : Nat) (st : St) (cx : Cx) (X : Tr) (j : Nat) : Prop where
  z : Z P st cx X
  rb : RBw (col st) X j
  rbc : RBC (col st) cx (j + 1)
  top : cx = .top ∨ topRed (col st) cx false = false

/-- At the root: it is black, or painted so. -/
theorem black_top {P : Nat} {st : St} {X : Tr} {j : Nat} (h : BlackInv P st .top X j) : Good P (st.paint X.root false) X ∧ (X.root = 0 → st.paint X.root false = st) := by
  have zz : X.root = 0 → st.paint X.root false = st := by
    intro e
    rw [e]
    have : setRed st.nd 0 false = st.nd := by
      funext x
      unfold setRed setAt
      by_cases q : x = 0
      · subst q
        rw [if_pos rfl]
        have := h.z.zero.red
        cases hx : st.nd 0 with
        | mk a b c d e f g => rw [hx] at this; simp only at this; rw [this]
      · rw [if_neg q]
    unfold St.paint
    rw [this]
  refine ⟨?_, zz⟩
  cases X with
  | nil =>
    rw [zz rfl]
    exact ⟨h.z, ⟨j, h.rb⟩, rfl⟩
  | node p l r =>
    have p0 : p ≠ 0 := h.z.sh.1
    have hnd := (nodup_mk (s := false)).1 h.z.nd.nt
    have kl : ∀ x ∈ l.list, col (st.paint p false) x = col st x := fun x hx => by rw [col_paint]; exact paint_other _ _ _ _ (fun e => hnd.2.2.1 (e ▸ hx))
    have kr : ∀ x ∈ r.list, col (st.paint p false) x = col st x := fun x hx => by rw [col_paint]; exact paint_other _ _ _ _ (fun e => hnd.2.2.2.1 (e ▸ hx))
    have cp : col (st.paint p false) p = false := by rw [col_paint, paint_at]
    refine ⟨paint_z h.z p false p0, ?_, cp⟩
    have hrb := h.rb
    rw [rbw_node] at hrb
    split at hrb
    · exact ⟨j + 1, (rb_black (s := false) cp).2 ⟨j, rfl, hrb.1.congr kl, hrb.2.congr kr⟩⟩
    · obtain ⟨i, _, h1, h2⟩ := hrb
      exact ⟨i + 1, (rb_black (s := false) cp).2 ⟨i, rfl, h1.congr kl, h2.congr kr⟩⟩

/-- What is at the hole is red: painted black, all is well. -/
theorem black_paint {P : Nat} {st : St} {cx : Cx} {X : Tr} {j : Nat} (h : BlackInv P st cx X j) (hr : redR (col st) X = true) (hc : cx ≠ .top) : Good P (st.paint X.root false) (cx.plug X) := by
  cases X with
  | nil => cases hr
  | node p l r =>
    have p0 : p ≠ 0 := h.z.sh.1
    have hp : col st p = true := hr
    have hnd := (nodup_mk (s := false)).1 h.z.nd.nt
    have kl : ∀ x ∈ l.list, col (st.paint p false) x = col st x := fun x hx => by rw [col_paint]; exact paint_other _ _ _ _ (fun e => hnd.2.2.1 (e ▸ hx))
    have kr : ∀ x ∈ r.list, col (st.paint p false) x = col st x := fun x hx => by rw [col_paint]; exact paint_other _ _ _ _ (fun e => hnd.2.2.2.1 (e ▸ hx))
    have kc : ∀ x ∈ cx.places, col (st.paint p false) x = col st x := fun x hx => by rw [col_paint]; exact paint_other _ _ _ _ (fun e => h.z.nd.d p (by simp [Tr.list]) (e ▸ hx))
    have cp : col (st.paint p false) p = false := by rw [col_paint, paint_at]
    have hrb := h.rb
    rw [rbw_node, if_pos hp] at hrb
    have key : RB (col (st.paint p false)) (.node p l r) (j + 1) := (rb_black (s := false) cp).2 ⟨j, rfl, hrb.1.congr kl, hrb.2.congr kr⟩
    refine ⟨(z_top _ _).1 (paint_z h.z p false p0), rb_plug key (h.rbc.congr kc) (Or.inl cp), ?_⟩
    show redR _ (cx.plug _) = false
    rw [redR_plug]
    cases cx with
    | top => exact absurd rfl hc
    | fr s q sib up =>
      show topRed (col (st.paint p false)) up (col (st.paint p false) q) = false
      have ht := top_of_fr h.top
      rw [kc q (by simp [Cx.places]), topRed_congr (fun x hx => kc x (by simp [Cx.places, hx]))]
      exact ht

theorem sib_node {c : Nat → Bool} {sib : Tr} {j : Nat} (h : RB c sib (j + 1)) (s : Bool) : ∃ b N F, sib = mk s b N F := by
  cases sib with
  | nil => cases h
  | node b l r => cases s
                  · exact ⟨b, l, r, rfl⟩
                  · exact ⟨b, r, l, rfl⟩

/-- Who stands apart, round a hole with a sibling of two children. -/
theorem apart2 {P : Nat} {st : St} {s : Bool} {p b : Nat} {X N F : Tr} {cx : Cx} (h : Z P st cx (mk s p X (mk s b N F))) :
    p ≠ b ∧ p ∉ X.list ∧ p ∉ N.list ∧ p ∉ F.list ∧ b ∉ X.list ∧ b ∉ N.list ∧ b ∉ F.list ∧ p ∉ cx.places ∧ b ∉ cx.places ∧
    (∀ x ∈ X.list, x ∉ N.list ∧ x ∉ F.list ∧ x ∉ cx.places) ∧ (∀ x ∈ N.list, x ∉ F.list ∧ x ∉ cx.places) ∧ (∀ x ∈ F.list, x ∉ cx.places) ∧ p ≠ 0 ∧ b ≠ 0 := by
  obtain ⟨q1, q2, q3, q4, q5⟩ := nodup_mk.1 h.nd.nt
  obtain ⟨r1, r2, r3, r4, r5⟩ := nodup_mk.1 q2
  have hd := h.nd.d
  obtain ⟨p0, _, _, _, _, sM⟩ := sh_mk.1 h.sh
  obtain ⟨b0, _⟩ := sh_mk.1 sM
  refine ⟨fun e => q4 (mem_mk.2 (Or.inl e)), q3, fun e => q4 (mem_mk.2 (Or.inr (Or.inl e))), fun e => q4 (mem_mk.2 (Or.inr (Or.inr e))), fun e => q5 b e (mem_mk.2 (Or.inl rfl)), r3, r4, hd p (mem_mk.2 (Or.inl rfl)), hd b (mem_mk.2 (Or.inr (Or.inr (mem_mk.2 (Or.inl rfl))))),
    fun x hx => ⟨fun e => q5 x hx (mem_mk.2 (Or.inr (Or.inl e))), fun e => q5 x hx (mem_mk.2 (Or.inr (Or.inr e))), hd x (mem_mk.2 (Or.inr (Or.inl hx)))⟩,
    fun x hx => ⟨r5 x hx, hd x (mem_mk.2 (Or.inr (Or.inr (mem_mk.2 (Or.inr (Or.inl hx))))))⟩, fun x hx => hd x (mem_mk.2 (Or.inr (Or.inr (mem_mk.2 (Or.inr (Or.inr hx)))))), p0, b0⟩

/-- The sibling is red: two are painted, the parent goes down, and a black sibling is there. -/
theorem black_red {P : Nat} {st : St} {s : Bool} {p b : Nat} {X N F : Tr} {cx : Cx} {j : Nat} (h : BlackInv P st (.fr s p (mk s b N F) cx) X j) (hb : col st b = true) :
    Z P ((st.paint p true).paint b false) cx (mk s p X (mk s b N F)) ∧ BlackInv P (((st.paint p true).paint b false).rot p s) (.fr s p N (.fr s b F cx)) X j := by
  have hz := z_move.2 h.z
  obtain ⟨pb, pX, pN, pF, bX, bN, bF, pc, bc, aX, aN, aF, p0, b0⟩ := apart2 hz
  obtain ⟨h1, h2⟩ := h.rbc
  have hpb : col st p = false := by
    by_cases e : col st p = true
    · rw [if_pos e, redR_mk, hb] at h2; cases h2.1
    · simpa using e
  rw [if_neg (by rw [hpb]; simp)] at h2
  obtain ⟨n1, n2, n3, n4⟩ := (rb_red hb).1 h1
  have hcol : ∀ x, x ≠ p → x ≠ b → col ((st.paint p true).paint b false) x = col st x := by
    intro x e1 e2
    rw [col_paint, paint_other _ _ _ _ e2, col_paint, paint_other _ _ _ _ e1]
  have cp : col ((st.paint p true).paint b false) p = true := by rw [col_paint, paint_other _ _ _ _ pb, col_paint, paint_at]
  have cb : col ((st.paint p true).paint b false) b = false := by rw [col_paint, paint_at]
  have kX : ∀ x ∈ X.list, col ((st.paint p true).paint b false) x = col st x := fun x hx => hcol x (fun e => pX (e ▸ hx)) (fun e => bX (e ▸ hx))
  have kN : ∀ x ∈ N.list, col ((st.paint p true).paint b false) x = col st x := fun x hx => hcol x (fun e => pN (e ▸ hx)) (fun e => bN (e ▸ hx))
  have kF : ∀ x ∈ F.list, col ((st.paint p true).paint b false) x = col st x := fun x hx => hcol x (fun e => pF (e ▸ hx)) (fun e => bF (e ▸ hx))
  have kc : ∀ x ∈ cx.places, col ((st.paint p true).paint b false) x = col st x := fun x hx => hcol x (fun e => pc (e ▸ hx)) (fun e => bc (e ▸ hx))
  have kz := paint_z (paint_z hz p true p0) b false b0
  refine ⟨kz, ?_⟩
  have hz2 := rot_z kz
  refine ⟨z_move.1 (z_move.1 hz2), ?_, ?_, Or.inr ?_⟩
  · rw [col_rot]
    have hrb := h.rb
    cases X with
    | nil => exact hrb
    | node q l r =>
      have e := kX q (by simp [Tr.list])
      have el : ∀ x ∈ l.list, col ((st.paint p true).paint b false) x = col st x := fun x hx => kX x (by simp [Tr.list, hx])
      have er : ∀ x ∈ r.list, col ((st.paint p true).paint b false) x = col st x := fun x hx => kX x (by simp [Tr.list, hx])
      rw [rbw_node] at hrb ⊢
      rw [e]
      split
      · rename_i q; rw [if_pos q] at hrb; exact ⟨hrb.1.congr el, hrb.2.congr er⟩
      · rename_i q; rw [if_neg q] at hrb
        obtain ⟨i, g1, g2, g3⟩ := hrb
        exact ⟨i, g1, g2.congr el, g3.congr er⟩
  · rw [col_rot]
    refine ⟨n3.congr kN, ?_⟩
    rw [if_pos cp]
    refine ⟨by rw [redR_congr kN]; exact n1, cb, n4.congr kF, ?_⟩
    rw [if_neg (by rw [cb]; simp)]
    exact h2.congr kc
  · rw [col_rot]
    show topRed _ cx (col ((st.paint p true).paint b false) b) = false
    rw [cb, topRed_congr kc]
    have ht := top_of_fr h.top
    rw [hpb] at ht
    exact ht

/-- The sibling and both that hang on it are black: it is painted red, and it goes on above. -/
theorem black_climb {P : Nat} {st : St} {s : Bool} {p b : Nat} {X N F : Tr} {cx : Cx} {j : Nat} (h : BlackInv P st (.fr s p (mk s b N F) cx) X j) (hX : redR (col st) X = false) (hb : col st b = false) (hN : redR (col st) N = false) (hF : redR (col st) F = false) :
    ∃ j', BlackInv P (st.paint b true) cx (mk s p X (mk s b N F)) j' := by
  have hz := z_move.2 h.z
  obtain ⟨pb, pX, pN, pF, bX, bN, bF, pc, bc, aX, aN, aF, p0, b0⟩ := apart2 hz
  obtain ⟨h1, h2⟩ := h.rbc
  obtain ⟨i, e, n3, n4⟩ := (rb_black hb).1 h1
  have ei : i = j := by omega
  subst ei
  have hcol : ∀ x, x ≠ b → col (st.paint b true) x = col st x := by
    intro x e2
    rw [col_paint, paint_other _ _ _ _ e2]
  have cb : col (st.paint b true) b = true := by rw [col_paint, paint_at]
  have kX : ∀ x ∈ X.list, col (st.paint b true) x = col st x := fun x hx => hcol x (fun e => bX (e ▸ hx))
  have kN : ∀ x ∈ N.list, col (st.paint b true) x = col st x := fun x hx => hcol x (fun e => bN (e ▸ hx))
  have kF : ∀ x ∈ F.list, col (st.paint b true) x = col st x := fun x hx => hcol x (fun e => bF (e ▸ hx))
  have kc : ∀ x ∈ cx.places, col (st.paint b true) x = col st x := fun x hx => hcol x (fun e => bc (e ▸ hx))
  have kS : RB (col (st.paint b true)) (mk s b N F) i := (rb_red cb).2 ⟨by rw [redR_congr kN]; exact hN, by rw [redR_congr kF]; exact hF, n3.congr kN, n4.congr kF⟩
  have rX := (h.rb.strong hX).congr kX
  have kz := paint_z hz b true b0
  have ht : cx = .top ∨ topRed (col (st.paint b true)) cx false = false := by
    have ht := top_of_fr h.top
    cases cx with
    | top => exact Or.inl rfl
    | fr s3 p3 sib3 up3 =>
      refine Or.inr ?_
      rw [topRed_congr kc]
      exact ht
  have cp := hcol p pb
  by_cases hp : col st p = true
  · rw [if_pos hp] at h2
    refine ⟨i, kz, rbw_mk ⟨rX, kS⟩ (by rw [cp]; exact hp), ?_, ht⟩
    exact h2.2.2.congr kc
  · rw [if_neg hp] at h2
    have hp' : col st p = false := by simpa using hp
    refine ⟨i + 1, kz, ((rb_black (by rw [cp]; exact hp')).2 ⟨i, rfl, rX, kS⟩).weak, h2.congr kc, ht⟩

/-- The far one is red: three are painted, and the parent goes down. -/
theorem black_far {P : Nat} {st : St} {s : Bool} {p b f : Nat} {X N F1 F2 : Tr} {cx : Cx} {j : Nat} (r : Bool) (hz : Z P st cx (mk s p X (mk s b N (mk s f F1 F2)))) (hr : r = col st p)
    (rX : RB (col st) X j) (rN : RB (col st) N j) (rF1 : RB (col st) F1 j) (rF2 : RB (col st) F2 j)
    (rbc : if col st p = true then redC (col st) cx = false ∧ RBC (col st) cx (j + 1) else RBC (col st) cx (j + 1 + 1)) (tp : topRed (col st) cx (col st p) = false) :
    Z P (((st.paint b r).paint p false).paint f false) cx (mk s p X (mk s b N (mk s f F1 F2))) ∧ Good P ((((st.paint b r).paint p false).paint f false).rot p s) (cx.plug (mk s b (mk s p X N) (mk s f F1 F2))) := by
  subst hr
  obtain ⟨pb, pX, pN, pF, bX, bN, bF, pc, bc, aX, aN, aF, p0, b0⟩ := apart2 hz
  have fm : f ∈ (mk s f F1 F2).list := mem_mk.2 (Or.inl rfl)
  have fF : f ≠ p ∧ f ≠ b := ⟨fun e => pF (e ▸ fm), fun e => bF (e ▸ fm)⟩
  obtain ⟨_, _, _, _, _, sM⟩ := sh_mk.1 hz.sh
  obtain ⟨_, _, _, _, _, sF⟩ := sh_mk.1 sM
  have f0 : f ≠ 0 := (sh_mk.1 sF).1
  obtain ⟨_, _, w1, w2, _⟩ := nodup_mk.1 ((nodup_mk.1 ((nodup_mk.1 hz.nd.nt).2.1)).2.1)
  have hcol : ∀ x, x ≠ p → x ≠ b → x ≠ f → col (((st.paint b (col st p)).paint p false).paint f false) x = col st x := by
    intro x e1 e2 e3
    rw [col_paint, paint_other _ _ _ _ e3, col_paint, paint_other _ _ _ _ e1, col_paint, paint_other _ _ _ _ e2]
  have cp : col (((st.paint b (col st p)).paint p false).paint f false) p = false := by rw [col_paint, paint_other _ _ _ _ (fun e => fF.1 e.symm), col_paint, paint_at]
  have cb : col (((st.paint b (col st p)).paint p false).paint f false) b = col st p := by rw [col_paint, paint_other _ _ _ _ (fun e => fF.2 e.symm), col_paint, paint_other _ _ _ _ (fun e => pb e.symm), col_paint, paint_at]
  have cf : col (((st.paint b (col st p)).paint p false).paint f false) f = false := by rw [col_paint, paint_at]
  have kX : ∀ x ∈ X.list, col (((st.paint b (col st p)).paint p false).paint f false) x = col st x := fun x hx => hcol x (fun e => pX (e ▸ hx)) (fun e => bX (e ▸ hx)) (fun e => (aX x hx).2.1 (e ▸ fm))
  have kN : ∀ x ∈ N.list, col (((st.paint b (col st p)).paint p false).paint f false) x = col st x := fun x hx => hcol x (fun e => pN (e ▸ hx)) (fun e => bN (e ▸ hx)) (fun e => (aN x hx).1 (e ▸ fm))
  have k1 : ∀ x ∈ F1.list, col (((st.paint b (col st p)).paint p false).paint f false) x = col st x := fun x hx => hcol x (fun e => pF (e ▸ mem_mk.2 (Or.inr (Or.inl hx)))) (fun e => bF (e ▸ mem_mk.2 (Or.inr (Or.inl hx)))) (fun e => w1 (e ▸ hx))
  have k2 : ∀ x ∈ F2.list, col (((st.paint b (col st p)).paint p false).paint f false) x = col st x := fun x hx => hcol x (fun e => pF (e ▸ mem_mk.2 (Or.inr (Or.inr hx)))) (fun e => bF (e ▸ mem_mk.2 (Or.inr (Or.inr hx)))) (fun e => w2 (e ▸ hx))
  have kc : ∀ x ∈ cx.places, col (((st.paint b (col st p)).paint p false).paint f false) x = col st x := fun x hx => hcol x (fun e => pc (e ▸ hx)) (fun e => bc (e ▸ hx)) (fun e => aF f fm (e ▸ hx))
  have kz := paint_z (paint_z (paint_z hz b (col st p) b0) p false p0) f false f0
  refine ⟨kz, ?_⟩
  have r1 : RB (col (((st.paint b (col st p)).paint p false).paint f false)) (mk s p X N) (j + 1) := (rb_black cp).2 ⟨j, rfl, rX.congr kX, rN.congr kN⟩
  have r2 : RB (col (((st.paint b (col st p)).paint p false).paint f false)) (mk s f F1 F2) (j + 1) := (rb_black cf).2 ⟨j, rfl, rF1.congr k1, rF2.congr k2⟩
  refine ⟨(z_top _ _).1 (rot_z kz), ?_, ?_⟩
  · rw [col_rot]
    by_cases hp : col st p = true
    · rw [if_pos hp] at rbc
      refine rb_plug ((rb_red (by rw [cb]; exact hp)).2 ⟨by rw [redR_mk]; exact cp, by rw [redR_mk]; exact cf, r1, r2⟩) (rbc.2.congr kc) (Or.inr (by rw [redC_congr kc]; exact rbc.1))
    · rw [if_neg hp] at rbc
      have hp' : col st p = false := by simpa using hp
      exact rb_plug ((rb_black (by rw [cb]; exact hp')).2 ⟨j + 1, rfl, r1, r2⟩) (rbc.congr kc) (Or.inl (by rw [redR_mk, cb]; exact hp'))
  · rw [col_rot, redR_plug, redR_mk, cb, topRed_congr kc]
    exact tp
end Go.Proofs.YtjjdkkdnlnbedaaGreat


namespace Go.Proofs.YtjjdkkdnlnbedaaGreat

/-- by takes n's stead. -/
def St.repl (st : St) (n m : Nat) : St :=
  (((st.paint m (st.nd n).red).join (st.nd n).up (sideOf st n) m).join m false ((st.nd n).dn false)).join m true ((st.nd n).dn true)
theorem side_paint (st : St) (m : Nat) (r : Bool) (n : Nat) : sideOf (st.paint m r) n = sideOf st n := by
  unfold sideOf
  rw [(paint_links st m r n).1, (paint_links st m r _).2]

theorem repl_z {P : Nat} {st : St} {cx : Cx} {n m : Nat} {l r : Tr} (h : Z P st cx (.node n l r)) (m0 : m ≠ 0) (mP : m ≤ P) (ml : m ∉ l.list) (mr : m ∉ r.list) (mc : m ∉ cx.places) :
    Z P (st.repl n m) cx (.node m l r) := by
  have hside := sideOf_z h
  have hz' := paint_z h m (st.nd n).red m0
  obtain ⟨hc, hs, hn, hr, hz⟩ := hz'
  obtain ⟨n0, hu, a1, a2, sL, sR⟩ := hs
  have hu0 : (st.nd n).up = cx.par := h.sh.2.1
  have a10 : (st.nd n).dn false = l.root := h.sh.2.2.1
  have a20 : (st.nd n).dn true = r.root := h.sh.2.2.2.1
  obtain ⟨q1, q2, q3, q4, q5⟩ := (nodup_mk (s := false)).1 hn.nt
  have dl : ∀ x ∈ l.list, x ∉ cx.places := fun x hx => hn.d x (by simp [Tr.list, hx])
  have dr : ∀ x ∈ r.list, x ∉ cx.places := fun x hx => hn.d x (by simp [Tr.list, hx])
  have hrepl : st.repl n m = (((st.paint m (st.nd n).red).join cx.par cx.side m).join m false l.root).join m true r.root := by
    unfold St.repl; rw [hu0, a10, a20, hside]
  rw [hrepl]
  generalize hst0 : st.paint m (st.nd n).red = st0 at *
  have U : ∀ x, ((((st0.join cx.par cx.side m).join m false l.root).join m true r.root).nd x).up = if r.root ≠ 0 ∧ x = r.root then m else if l.root ≠ 0 ∧ x = l.root then m else if x = m then cx.par else (st0.nd x).up := by
    intro x
    rw [join_up, join_up, join_up]
    simp only [ne_eq, m0, not_false_eq_true, true_and]
  have D : ∀ x t, ((((st0.join cx.par cx.side m).join m false l.root).join m true r.root).nd x).dn t = if x = m ∧ t = true then r.root else if x = m ∧ t = false then l.root else if cx.par ≠ 0 ∧ x = cx.par ∧ t = cx.side then m else (st0.nd x).dn t := by
    intro x t
    rw [join_dn, join_dn, join_dn]
    simp only [ne_eq, m0, not_false_eq_true, true_and]
  generalize hst' : ((st0.join cx.par cx.side m).join m false l.root).join m true r.root = st' at U D
  have rl : ∀ {t : Tr}, m ∉ t.list → t.root ≠ 0 → m ≠ t.root := fun ht h0 e => ht (e ▸ root_mem h0)
  refine ⟨?_, ⟨m0, ?_, ?_, ?_, ?_, ?_⟩, ?_, ?_, ?_⟩
  · refine hc.hole hn.nc ?_ ?_ ?_
    · intro x hx
      rw [U, if_neg (by rintro ⟨e1, e2⟩; exact dr _ (root_mem e1) (e2 ▸ hx)), if_neg (by rintro ⟨e1, e2⟩; exact dl _ (root_mem e1) (e2 ▸ hx)), if_neg (by intro e; exact mc (e ▸ hx))]
    · intro x hx he
      funext t
      rw [D, if_neg (by intro e; exact mc (e.1 ▸ hx)), if_neg (by intro e; exact mc (e.1 ▸ hx)), if_neg (by intro e; exact he e.2.1)]
    · intro hp
      have mm := par_mem hp
      constructor
      · rw [D, if_neg (by intro e; exact mc (e.1 ▸ mm)), if_neg (by intro e; exact mc (e.1 ▸ mm)), if_pos ⟨hp, rfl, rfl⟩]; rfl
      · rw [D, if_neg (by intro e; exact mc (e.1 ▸ mm)), if_neg (by intro e; exact mc (e.1 ▸ mm)), if_neg (by rintro ⟨_, _, e⟩; cases q : cx.side <;> simp [q] at e)]
  · rw [U, if_neg (by rintro ⟨e1, e2⟩; exact rl mr e1 e2), if_neg (by rintro ⟨e1, e2⟩; exact rl ml e1 e2), if_pos rfl]
  · rw [D, if_neg (by simp), if_pos ⟨rfl, rfl⟩]
  · rw [D, if_pos ⟨rfl, rfl⟩]
  · refine sL.move q1 ?_ ?_ ?_
    · intro x hx
      funext t
      rw [D, if_neg (by intro e; exact ml (e.1 ▸ hx)), if_neg (by intro e; exact ml (e.1 ▸ hx)), if_neg (by intro e; exact dl x hx (e.2.1 ▸ par_mem e.1))]
    · intro x hx he
      rw [U, if_neg (by rintro ⟨e1, e2⟩; exact q5 x hx (e2 ▸ root_mem e1)), if_neg (by intro e; exact he e.2), if_neg (by intro e; exact ml (e ▸ hx))]
    · intro h0
      by_cases e : r.root ≠ 0 ∧ l.root = r.root
      · exact absurd (e.2 ▸ root_mem e.1) (q5 _ (root_mem h0))
      · rw [U, if_neg e, if_pos ⟨h0, rfl⟩]
  · refine sR.move q2 ?_ ?_ ?_
    · intro x hx
      funext t
      rw [D, if_neg (by intro e; exact mr (e.1 ▸ hx)), if_neg (by intro e; exact mr (e.1 ▸ hx)), if_neg (by intro e; exact dr x hx (e.2.1 ▸ par_mem e.1))]
    · intro x hx he
      rw [U, if_neg (by intro e; exact he e.2), if_neg (by rintro ⟨e1, e2⟩; exact q5 _ (root_mem e1) (e2 ▸ hx)), if_neg (by intro e; exact mr (e ▸ hx))]
    · intro h0
      rw [U, if_pos ⟨h0, rfl⟩]
  · refine ⟨(nodup_mk (s := false)).2 ⟨q1, q2, ml, mr, q5⟩, hn.nc, ?_, ?_, hn.bc⟩
    · intro x hx
      rcases (mem_mk (s := false)).1 hx with rfl | e | e
      · exact mc
      · exact dl x e
      · exact dr x e
    · intro x hx
      rcases (mem_mk (s := false)).1 hx with rfl | e | e
      · exact mP
      · exact hn.bt x (by simp [Tr.list, e])
      · exact hn.bt x (by simp [Tr.list, e])
  · rw [← hst', join_root, if_neg m0, join_root, if_neg m0, join_root]
    cases cx with
    | top => simp [Cx.par, Cx.rootOf, Tr.root]
    | fr s p sib up =>
      rw [if_neg (show (Cx.fr s p sib up).par ≠ 0 from hc.1), hr]
      rfl
  · rw [← hst']
    exact blank_join (blank_join (blank_join hz))
theorem kept_repl {P : Nat} {st : St} {cx : Cx} {n m : Nat} {l r : Tr} {L : List Nat} (h : Z P st cx (.node n l r)) (hm : m ∈ L) (hL : ∀ x, x ∈ (cx.plug (.node n l r)).list → x ∈ L) : Kept L st (st.repl n m) := by
  have hu0 : (st.nd n).up = cx.par := h.sh.2.1
  have a10 : (st.nd n).dn false = l.root := h.sh.2.2.1
  have a20 : (st.nd n).dn true = r.root := h.sh.2.2.2.1
  unfold St.repl
  rw [hu0, a10, a20]
  have ml : ∀ x, x ∈ l.list ∨ x ∈ r.list ∨ x ∈ cx.places → x ∈ L := by
    intro x hx
    apply hL
    rw [mem_plug]
    rcases hx with e | e | e <;> simp [Tr.list, e]
  exact (((kept_red st m _ hm).trans (kept_join _ _ _ _ (fun _ => hm) (fun e => ml _ (Or.inr (Or.inr (par_mem e)))))).trans (kept_join _ _ _ _ (fun e => ml _ (Or.inl (root_mem e))) (fun _ => hm))).trans (kept_join _ _ _ _ (fun e => ml _ (Or.inr (Or.inl (root_mem e)))) (fun _ => hm))
theorem col_repl (st : St) (n m : Nat) : col (st.repl n m) = paint (col st) m (col st n) := by
  unfold St.repl
  rw [col_join, col_join, col_join, col_paint]; rfl

/-- The way down to the left, from the top. -/
def app : List (Nat × Tr) → Cx → Cx
  | [], base => base
  | (p, b) :: rest, base => app rest (.fr false p b base)
theorem app_plug : ∀ (path : List (Nat × Tr)) (base : Cx) (t : Tr), (app path base).plug t = base.plug ((app path .top).plug t)
  | [], _, _ => rfl
  | (p, b) :: rest, base, t => by
    rw [app, app, app_plug rest (.fr false p b base), app_plug rest (.fr false p b .top)]
    rfl
theorem leftmost : ∀ (t : Tr), t ≠ .nil → ∃ path o R, (∀ d, t.fst d = o) ∧ t = (app path .top).plug (.node o .nil R)
  | .nil, h => absurd rfl h
  | .node p .nil b, _ => ⟨[], p, b, fun _ => rfl, rfl⟩
  | .node p (.node q x y) b, _ => by
    obtain ⟨path, o, R, h1, h2⟩ := leftmost (.node q x y) (by intro e; cases e)
    refine ⟨(p, b) :: path, o, R, fun d => h1 p, ?_⟩
    rw [app, app_plug, ← h2]; rfl
theorem app_places : ∀ (path : List (Nat × Tr)) (base : Cx) (x : Nat), x ∈ (app path base).places ↔ x ∈ (app path .top).places ∨ x ∈ base.places
  | [], base, x => by simp [app, Cx.places]
  | (p, b) :: rest, base, x => by
    rw [app, app, app_places rest (.fr false p b base), app_places rest (.fr false p b .top)]
    simp only [Cx.places, List.mem_cons, List.mem_append, List.not_mem_nil, or_false]
    constructor
    · rintro (h | h | h | h) <;> simp [h]
    · rintro ((h | h | h) | h) <;> simp [h]
theorem rbc_app {c c' : Nat → Bool} {s : Bool} {n m : Nat} {l : Tr} {cx : Cx} : ∀ (path : List (Nat × Tr)) {k : Nat} {b1 b2 : Cx}, (∀ k, RBC c b1 k → RBC c' b2 k) → redC c' b2 = redC c b1 → (∀ x ∈ (app path .top).places, c' x = c x) →
    RBC c (app path b1) k → RBC c' (app path b2) k ∧ redC c' (app path b2) = redC c (app path b1)
  | [], k, b1, b2, h1, h2, _, h => ⟨h1 k h, h2⟩
  | (p, b) :: rest, k, b1, b2, h1, h2, h3, h => by
    have hp : c' p = c p := h3 p (by rw [app, app_places]; simp [Cx.places])
    have hb : ∀ x ∈ b.list, c' x = c x := fun x hx => h3 x (by rw [app, app_places]; simp [Cx.places, hx])
    refine rbc_app (s := s) (n := n) (m := m) (l := l) (cx := cx) rest (b1 := .fr false p b b1) (b2 := .fr false p b b2) ?_ hp (fun x hx => h3 x (by rw [app, app_places]; exact Or.inl hx)) h
    rintro k ⟨g1, g2⟩
    refine ⟨g1.congr hb, ?_⟩
    rw [hp, redR_congr hb, h2]
    split
    · rename_i e; rw [if_pos e] at g2; exact ⟨g2.1, g2.2.1, h1 _ g2.2.2⟩
    · rename_i e; rw [if_neg e] at g2; exact h1 _ g2
theorem top_app {c c' : Nat → Bool} : ∀ (path : List (Nat × Tr)) {b1 b2 : Cx}, (∀ x, topRed c' b2 x = topRed c b1 x) → (∀ x ∈ (app path .top).places, c' x = c x) → ∀ x, topRed c' (app path b2) x = topRed c (app path b1) x
  | [], _, _, h, _, x => h x
  | (p, b) :: rest, b1, b2, h, h3, x => by
    have hp : c' p = c p := h3 p (by rw [app, app_places]; simp [Cx.places])
    refine top_app rest (b1 := .fr false p b b1) (b2 := .fr false p b b2) ?_ (fun x hx => h3 x (by rw [app, app_places]; exact Or.inl hx)) x
    intro y
    show topRed c' b2 (c' p) = topRed c b1 (c p)
    rw [hp, h]
end Go.Proofs.YtjjdkkdnlnbedaaGreat


namespace Go.Proofs.YtjjdkkdnlnbedaaGreat

/-- A node with one below it at most goes. -/
theorem unhang_one {P : Nat} {st : St} {cx : Cx} {n : Nat} {l r X : Tr} (hg : Good P st (cx.plug (.node n l r))) (hX : (l = .nil ∧ X = r) ∨ (r = .nil ∧ X = l)) :
    (col st n = false → ∃ j, BlackInv P (st.join cx.par cx.side X.root) cx X j) ∧ (col st n = true → Good P (st.join cx.par cx.side X.root) (cx.plug X)) ∧
    Kept (cx.plug (.node n l r)).list st (st.join cx.par cx.side X.root) ∧ ∃ A B, (cx.plug (.node n l r)).list = A ++ n :: B ∧ (cx.plug X).list = A ++ B := by
  have hz : Z P st cx (.node n l r) := (z_top _ _).2 hg.z
  obtain ⟨n0, hu, a1, a2, sL, sR⟩ := hz.sh
  have hsX : Sh st.nd X n := by rcases hX with ⟨_, rfl⟩ | ⟨_, rfl⟩ <;> assumption
  have hXm : ∀ x ∈ X.list, x ∈ (Tr.node n l r).list := by
    intro x hx
    rcases hX with ⟨_, rfl⟩ | ⟨_, rfl⟩ <;> simp [Tr.list, hx]
  have hXn : X.list.Nodup := by
    obtain ⟨q1, q2, _⟩ := (nodup_mk (s := false)).1 hz.nd.nt
    rcases hX with ⟨_, rfl⟩ | ⟨_, rfl⟩ <;> assumption
  have hnd : ND P X cx := ⟨hXn, hz.nd.nc, fun x hx => hz.nd.d x (hXm x hx), fun x hx => hz.nd.bt x (hXm x hx), hz.nd.bc⟩
  have hz1 : Z P (st.join cx.par cx.side X.root) cx X := graft hz.shc hz.root hz.zero hsX hnd
  obtain ⟨K, hK⟩ := hg.rb
  obtain ⟨k, g1, g2, g3⟩ := rb_unplug hK
  have ht := hg.root
  rw [redR_plug] at ht
  have htop : cx = .top ∨ topRed (col st) cx false = false := by
    cases cx with
    | top => exact Or.inl rfl
    | fr s p sib up => exact Or.inr ht
  refine ⟨?_, ?_, ?_, ?_⟩
  · intro hb
    obtain ⟨j, rfl, h1, h2⟩ := (rb_black (s := false) hb).1 g1
    refine ⟨j, hz1, ?_, ?_, ?_⟩
    · rw [col_join]
      rcases hX with ⟨_, rfl⟩ | ⟨_, rfl⟩
      · exact h2.weak
      · exact h1.weak
    · rw [col_join]; exact g2
    · rw [col_join]; exact htop
  · intro hb
    obtain ⟨h0, h0', h1, h2⟩ := (rb_red (s := false) hb).1 g1
    have hrb : RB (col st) X k := by rcases hX with ⟨_, rfl⟩ | ⟨_, rfl⟩ <;> assumption
    have hbl : redR (col st) X = false := by rcases hX with ⟨_, rfl⟩ | ⟨_, rfl⟩ <;> assumption
    refine ⟨(z_top _ _).1 hz1, ?_, ?_⟩
    · rw [col_join]; exact rb_plug hrb g2 (Or.inl hbl)
    · rw [col_join, redR_plug, hbl]
      rcases htop with rfl | e
      · rfl
      · exact e
  · refine kept_join _ _ _ _ (fun e => ?_) (fun e => ?_)
    · rw [mem_plug]; exact Or.inl (hXm _ (root_mem e))
    · rw [mem_plug]; exact Or.inr (par_mem e)
  · rw [plug_pp, plug_pp]
    rcases hX with ⟨rfl, rfl⟩ | ⟨rfl, rfl⟩
    · exact ⟨cx.pre, X.list ++ cx.post, by simp [Tr.list], rfl⟩
    · exact ⟨cx.pre ++ X.list, cx.post, by simp [Tr.list], by simp⟩

theorem par_app (path : List (Nat × Tr)) (base : Cx) : (app path base).par = if path = [] then base.par else (app path .top).par := by
  induction path generalizing base with
  | nil => rfl
  | cons a rest ih =>
    obtain ⟨p, b⟩ := a
    rw [if_neg (by simp), app, app, ih, ih (.fr false p b .top)]
    split <;> rfl
theorem side_app (path : List (Nat × Tr)) (base : Cx) : (app path base).side = if path = [] then base.side else false := by
  induction path generalizing base with
  | nil => rfl
  | cons a rest ih =>
    obtain ⟨p, b⟩ := a
    rw [if_neg (by simp), app, ih]
    split <;> rfl

/-- A node with two below it goes: the next one takes its stead. -/
theorem unhang_two {P : Nat} {st : St} {cx : Cx} {n o : Nat} {l r R : Tr} {path : List (Nat × Tr)} (hg : Good P st (cx.plug (.node n l r))) (hr : r = (app path .top).plug (.node o .nil R)) :
    Z P st (app path (.fr true n l cx)) (.node o .nil R) ∧
    Z P (st.join (app path (.fr true n l cx)).par (app path (.fr true n l cx)).side R.root) cx (.node n l ((app path .top).plug R)) ∧ o ≠ 0 ∧ o ≤ P ∧ o ≠ n ∧
    ((app path (.fr true n l cx)).par = n → (app path (.fr true o l cx)).par = o) ∧ ((app path (.fr true n l cx)).par ≠ n → (app path (.fr true o l cx)).par = (app path (.fr true n l cx)).par) ∧
    (app path (.fr true o l cx)).side = (app path (.fr true n l cx)).side ∧
    (col st o = false → ∃ j, BlackInv P ((st.join (app path (.fr true n l cx)).par (app path (.fr true n l cx)).side R.root).repl n o) (app path (.fr true o l cx)) R j) ∧
    (col st o = true → Good P ((st.join (app path (.fr true n l cx)).par (app path (.fr true n l cx)).side R.root).repl n o) ((app path (.fr true o l cx)).plug R)) ∧
    Kept (cx.plug (.node n l r)).list st ((st.join (app path (.fr true n l cx)).par (app path (.fr true n l cx)).side R.root).repl n o) ∧
    ∃ A B, (cx.plug (.node n l r)).list = A ++ n :: B ∧ ((app path (.fr true o l cx)).plug R).list = A ++ B := by
  have hpl : cx.plug (.node n l r) = (app path (.fr true n l cx)).plug (.node o .nil R) := by
    rw [app_plug, hr]; rfl
  have hz : Z P st (app path (.fr true n l cx)) (.node o .nil R) := by rw [z_top, ← hpl]; exact hg.z
  have o0 : o ≠ 0 := hz.sh.1
  have oP : o ≤ P := hz.bd
  have oc : o ∉ (app path (.fr true n l cx)).places := hz.nd.d o (by simp [Tr.list])
  have oc' : o ∉ (app path .top).places ∧ o ≠ n ∧ o ∉ l.list ∧ o ∉ cx.places := by
    rw [app_places] at oc
    simp only [Cx.places, List.mem_cons, List.mem_append, not_or] at oc
    exact ⟨oc.1, oc.2.1, oc.2.2.1, oc.2.2.2⟩
  obtain ⟨o1, o2, o3, o4⟩ := oc'
  have oR : o ∉ R.list := by
    have := (nodup_mk (s := false)).1 hz.nd.nt
    exact this.2.2.2.1
  have hnd : ND P R (app path (.fr true n l cx)) := ⟨((nodup_mk (s := false)).1 hz.nd.nt).2.1, hz.nd.nc, fun x hx => hz.nd.d x (by simp [Tr.list, hx]), fun x hx => hz.nd.bt x (by simp [Tr.list, hx]), hz.nd.bc⟩
  have hz1 : Z P (st.join (app path (.fr true n l cx)).par (app path (.fr true n l cx)).side R.root) (app path (.fr true n l cx)) R := graft hz.shc hz.root hz.zero hz.sh.2.2.2.2.2 hnd
  have hz2 : Z P (st.join (app path (.fr true n l cx)).par (app path (.fr true n l cx)).side R.root) cx (.node n l ((app path .top).plug R)) := by
    rw [z_top] at hz1 ⊢
    rw [app_plug] at hz1
    exact hz1
  have or' : o ∉ ((app path .top).plug R).list := by
    rw [mem_plug]
    rintro (e | e)
    · exact oR e
    · exact o1 e
  have hz3 := repl_z hz2 o0 oP o3 or' o4
  have hz4 : Z P ((st.join (app path (.fr true n l cx)).par (app path (.fr true n l cx)).side R.root).repl n o) (app path (.fr true o l cx)) R := by
    rw [z_top, app_plug]
    exact (z_top cx _).1 hz3
  have npath : n ∉ (app path .top).places := by
    intro e
    have hzr := ((z_top cx (.node n l r)).2 hg.z)
    have := ((nodup_mk (s := false)).1 hzr.nd.nt).2.2.2.1
    apply this
    rw [hr, mem_plug]
    exact Or.inr e
  have hpar1 : (app path (.fr true n l cx)).par = n → (app path (.fr true o l cx)).par = o := by
    intro e
    rw [par_app] at e ⊢
    by_cases q : path = []
    · rw [if_pos q]; rfl
    · rw [if_neg q] at e
      exfalso
      have h0 : (app path .top).par ≠ 0 := by
        intro z
        rw [z] at e
        exact (hz1.shc |> fun _ => ((z_top cx (.node n l r)).2 hg.z).sh.1) e.symm
      exact npath (e ▸ par_mem h0)
  have hpar2 : (app path (.fr true n l cx)).par ≠ n → (app path (.fr true o l cx)).par = (app path (.fr true n l cx)).par := by
    intro e
    rw [par_app] at e ⊢
    rw [par_app path (.fr true n l cx)]
    by_cases q : path = []
    · rw [if_pos q] at e; exact absurd rfl e
    · rw [if_neg q, if_neg q]
  have hside : (app path (.fr true o l cx)).side = (app path (.fr true n l cx)).side := by
    rw [side_app, side_app]
    split <;> rfl
  -- colours
  generalize hst1 : st.join (app path (.fr true n l cx)).par (app path (.fr true n l cx)).side R.root = st1 at *
  have c1 : col st1 = col st := by rw [← hst1, col_join]
  have c2 : col (st1.repl n o) = paint (col st) o (col st n) := by rw [col_repl, c1]
  have cx2 : ∀ x, x ≠ o → col (st1.repl n o) x = col st x := fun x hx => by rw [c2, paint_other _ _ _ _ hx]
  have co : col (st1.repl n o) o = col st n := by rw [c2, paint_at]
  obtain ⟨K, hK⟩ := hg.rb
  rw [hpl] at hK
  obtain ⟨k, g1, g2, g3⟩ := rb_unplug hK
  have kl : ∀ x ∈ l.list, col (st1.repl n o) x = col st x := fun x hx => cx2 x (fun e => o3 (e ▸ hx))
  have kc : ∀ x ∈ cx.places, col (st1.repl n o) x = col st x := fun x hx => cx2 x (fun e => o4 (e ▸ hx))
  have kp : ∀ x ∈ (app path .top).places, col (st1.repl n o) x = col st x := fun x hx => cx2 x (fun e => o1 (e ▸ hx))
  have kR : ∀ x ∈ R.list, col (st1.repl n o) x = col st x := fun x hx => cx2 x (fun e => oR (e ▸ hx))
  obtain ⟨h1, h2⟩ := rbc_app (s := true) (n := n) (m := o) (l := l) (cx := cx) (c := col st) (c' := col (st1.repl n o)) path (k := k) (b1 := .fr true n l cx) (b2 := .fr true o l cx) (by
    rintro k ⟨q1, q2⟩
    refine ⟨q1.congr kl, ?_⟩
    rw [co, redR_congr kl, redC_congr kc]
    split
    · rename_i e; rw [if_pos e] at q2; exact ⟨q2.1, q2.2.1, q2.2.2.congr kc⟩
    · rename_i e; rw [if_neg e] at q2; exact q2.congr kc) co kp g2
  have htr : ∀ x, topRed (col (st1.repl n o)) (app path (.fr true o l cx)) x = topRed (col st) (app path (.fr true n l cx)) x :=
    top_app path (by
      intro x
      show topRed _ cx (col (st1.repl n o) o) = topRed _ cx (col st n)
      rw [co, topRed_congr kc]) kp
  have ht := hg.root
  rw [hpl, redR_plug] at ht
  have ntop : ∀ (path : List (Nat × Tr)) (b : Cx) (x y : Bool), b ≠ .top → topRed (col st) (app path b) x = topRed (col st) (app path b) y := by
    intro path
    induction path with
    | nil =>
      intro b x y hb
      cases b with
      | top => exact absurd rfl hb
      | fr s p sib up => rfl
    | cons a rest ih => intro b x y _; exact ih _ x y (by intro e; cases e)
  refine ⟨hz, hz2, o0, oP, o2, hpar1, hpar2, hside, ?_, ?_, ?_, ?_⟩
  · intro hb
    obtain ⟨j, rfl, _, r2⟩ := (rb_black (s := false) hb).1 g1
    refine ⟨j, hz4, (r2.congr kR).weak, h1, Or.inr ?_⟩
    rw [htr, ntop path _ false (redR (col st) (.node o .nil R)) (by intro e; cases e)]
    exact ht
  · intro hb
    obtain ⟨_, r0, _, r2⟩ := (rb_red (s := false) hb).1 g1
    refine ⟨(z_top _ _).1 hz4, rb_plug (r2.congr kR) h1 (Or.inl (by rw [redR_congr kR]; exact r0)), ?_⟩
    rw [redR_plug, htr, ntop path _ _ (redR (col st) (.node o .nil R)) (by intro e; cases e)]
    exact ht
  · have k1 : Kept (cx.plug (.node n l r)).list st st1 := by
      rw [← hst1]
      refine kept_join _ _ _ _ (fun e => ?_) (fun e => ?_)
      · rw [hpl, mem_plug]; exact Or.inl (by simp [Tr.list, root_mem e])
      · rw [hpl, mem_plug]; exact Or.inr (par_mem e)
    refine k1.trans (kept_repl hz2 (by rw [hpl, mem_plug]; exact Or.inl (by simp [Tr.list])) ?_)
    intro x hx
    rw [mem_plug] at hx ⊢
    rcases hx with e | e
    · left
      simp only [Tr.list, List.mem_append, List.mem_cons] at e ⊢
      rcases e with e | e | e
      · exact Or.inl e
      · exact Or.inr (Or.inl e)
      · refine Or.inr (Or.inr ?_)
        rw [hr, mem_plug]
        rw [mem_plug] at e
        rcases e with e | e
        · exact Or.inl (by simp [Tr.list, e])
        · exact Or.inr e
    · exact Or.inr e
  · have hrl : r.list = o :: ((app path .top).plug R).list := by
      have pre0 : ∀ (path : List (Nat × Tr)) (b : Cx), (app path b).pre = b.pre := by
        intro path
        induction path with
        | nil => intro b; rfl
        | cons a rest ih => intro b; rw [app, ih]; rfl
      rw [hr, plug_pp, plug_pp, pre0]
      simp [Tr.list, Cx.pre]
    refine ⟨cx.pre ++ l.list, r.list ++ cx.post, ?_, ?_⟩
    · rw [plug_pp]; simp [Tr.list]
    · rw [app_plug]
      show (cx.plug (.node o l ((app path .top).plug R))).list = _
      rw [plug_pp, hrl]
      simp [Tr.list]
end Go.Proofs.YtjjdkkdnlnbedaaGreat


namespace Go.Proofs.YtjjdkkdnlnbedaaGreat

def emptied (tu : Int) (f : Nat) : Nd := ⟨0, 0, tu, false, false, 0, fun s => if s then 0 else f⟩
/-- The place is empty, and the first of the empty ones. -/
def St.clear (st : St) (n : Nat) (tu : Int) : St := ⟨setAt st.nd n (emptied tu st.free), st.root, n, st.count - 1⟩
theorem clear_at (st : St) (n : Nat) (tu : Int) : (st.clear n tu).nd n = emptied tu st.free := by unfold St.clear setAt; simp
theorem clear_other (st : St) (n : Nat) (tu : Int) (x : Nat) (h : x ≠ n) : (st.clear n tu).nd x = st.nd x := by unfold St.clear setAt; simp [h]

theorem mem_split {α : Type} [DecidableEq α] {x : α} {A B : List α} {n : α} (hx : x ∈ A ++ n :: B) (h : x ≠ n) : x ∈ A ++ B := by
  simp only [List.mem_append, List.mem_cons] at hx ⊢
  rcases hx with e | e | e
  · exact Or.inl e
  · exact absurd e h
  · exact Or.inr e

theorem drop_inv {P : Nat} {st st' : St} {t t' : Tr} {fl A B : List Nat} {n : Nat} {tu : Int} (hi : Inv P st t fl) (hg : Good P st' t') (hl : t.list = A ++ n :: B) (hl' : t'.list = A ++ B) (hk : Kept t.list st st') :
    Inv P (st'.clear n tu) t' (n :: fl) ∧ (∀ x, x ≠ n → SameK ((st'.clear n tu).nd x) (st.nd x)) ∧ ((st'.clear n tu).nd n).turn = tu := by
  have hnt : t.list.Nodup := hi.good.z.nd.nt
  have hnm : n ∈ t.list := by rw [hl]; simp
  have nn : n ∉ A ++ B := by
    rw [hl] at hnt
    intro e
    rw [List.nodup_append, List.nodup_cons] at hnt
    obtain ⟨h1, ⟨h2, h3⟩, h4⟩ := hnt
    rcases List.mem_append.1 e with e | e
    · exact h4 n e n (by simp) rfl
    · exact h2 e
  have n0 : n ≠ 0 := by
    intro e
    have := not_zero_mem hi.good.z.sh
    exact this (e ▸ hnm)
  have nP : n ≤ P := hi.good.z.nd.bt n hnm
  have nt' : n ∉ t'.list := by rw [hl']; exact nn
  have hx : ∀ x ∈ t'.list, x ≠ n := fun x hx e => nt' (e ▸ hx)
  have kx : ∀ x, x ≠ n → SameK ((st'.clear n tu).nd x) (st.nd x) := by
    intro x h
    rw [clear_other _ _ _ _ h]
    exact hk.key x
  have hcol : ∀ x ∈ t'.list, col (st'.clear n tu) x = col st' x := by
    intro x h
    show ((st'.clear n tu).nd x).red = _
    rw [clear_other _ _ _ _ (hx x h)]; rfl
  have sub : ∀ x ∈ t'.list, x ∈ t.list := by
    intro x h
    rw [hl'] at h
    rw [hl]
    simp only [List.mem_append, List.mem_cons] at h ⊢
    rcases h with e | e
    · exact Or.inl e
    · exact Or.inr (Or.inr e)
  refine ⟨⟨⟨⟨trivial, hg.z.sh.congr ?_, hg.z.nd, hg.z.root, ?_⟩, ?_, ?_⟩, ?_, ?_, ?_, ?_, ?_, ?_, ?_⟩, kx, ?_⟩
  · intro x h
    rw [clear_other _ _ _ _ (hx x h)]
    exact ⟨rfl, rfl⟩
  · rw [clear_other _ _ _ _ (fun e => n0 e.symm)]; exact hg.z.zero
  · obtain ⟨K, h⟩ := hg.rb
    exact ⟨K, h.congr hcol⟩
  · rw [redR_congr hcol]; exact hg.root
  · rw [hl']
    have hs := hi.srt
    rw [hl] at hs
    have hs' : Srt st (A ++ B) := List.Pairwise.sublist (List.Sublist.append (List.Sublist.refl _) (List.sublist_cons_self _ _)) hs
    refine List.Pairwise.imp_of_mem ?_ hs'
    intro x y h1 h2 h
    have e1 := kx x (fun e => nn (e ▸ h1))
    have e2 := kx y (fun e => nn (e ▸ h2))
    unfold kle at h ⊢
    rw [e1.1, e1.2.1, e2.1, e2.2.1]; exact h
  · intro x h
    by_cases e : x = n
    · subst e
      rw [clear_at]
      simp [emptied, nt']
    · rw [(kx x e).2.2.2, hi.fil x h, hl, hl']
      constructor
      · intro q; exact mem_split q e
      · intro q
        simp only [List.mem_append, List.mem_cons] at q ⊢
        rcases q with q | q
        · exact Or.inl q
        · exact Or.inr (Or.inr q)
  · refine ⟨rfl, n0, ?_⟩
    rw [clear_at]
    show Chain _ st'.free fl
    rw [hk.free]
    refine hi.chain.congr ?_
    intro x h
    obtain ⟨_, _, b3⟩ := hi.fbd x h
    rw [clear_other _ _ _ _ (show x ≠ n from fun e => b3 (e ▸ hnm)), hk.out x b3]
  · refine List.nodup_cons.2 ⟨fun e => (hi.fbd n e).2.2 hnm, hi.fnd⟩
  · intro x h
    rcases List.mem_cons.1 h with rfl | h
    · exact ⟨n0, nP, nt'⟩
    · obtain ⟨b1, b2, b3⟩ := hi.fbd x h
      exact ⟨b1, b2, fun e => b3 (sub x e)⟩
  · have := hi.cover
    rw [hl] at this
    rw [hl']
    simp only [List.length_append, List.length_cons] at this ⊢
    omega
  · have h1 := hi.count
    have h2 := hk.count
    rw [hl] at h1
    show st'.count - 1 = _
    rw [hl', h2, h1]
    simp only [List.length_append, List.length_cons]
    omega
  · rw [clear_at]; rfl

def Cx.comp : Cx → Cx → Cx
  | .top, b => b
  | .fr s p sib up, b => .fr s p sib (up.comp b)
theorem plug_comp : ∀ (c b : Cx) (t : Tr), (c.comp b).plug t = b.plug (c.plug t)
  | .top, _, _ => rfl
  | .fr s p sib up, b, t => by rw [Cx.comp, Cx.plug, Cx.plug, plug_comp up b]
theorem find_cx : ∀ (t : Tr) (n : Nat), n ∈ t.list → ∃ (cx : Cx) (l r : Tr), t = cx.plug (.node n l r)
  | .nil, _, h => by simp [Tr.list] at h
  | .node p l r, n, h => by
    simp only [Tr.list, List.mem_append, List.mem_cons] at h
    rcases h with h | rfl | h
    · obtain ⟨cx, a, b, e⟩ := find_cx l n h
      refine ⟨cx.comp (.fr false p r .top), a, b, ?_⟩
      rw [plug_comp, ← e]; rfl
    · exact ⟨.top, l, r, rfl⟩
    · obtain ⟨cx, a, b, e⟩ := find_cx r n h
      refine ⟨cx.comp (.fr true p l .top), a, b, ?_⟩
      rw [plug_comp, ← e]; rfl
end Go.Proofs.YtjjdkkdnlnbedaaGreat

