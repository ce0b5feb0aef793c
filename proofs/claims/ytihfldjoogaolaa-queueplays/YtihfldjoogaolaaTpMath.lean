namespace Go.Proofs.Ytihfldjoogaolaa

/-- What a place holds. -/
structure Nd where
  time : Int
  seq : Int
  turn : Int
  filled : Bool
  red : Bool
  up : Nat
  dn : Bool → Nat
/-- A tree's state. -/
structure St where
  nd : Nat → Nd
  root : Nat
  free : Nat
  count : Nat

def setAt (f : Nat → Nd) (i : Nat) (x : Nd) : Nat → Nd := fun j => if j = i then x else f j
def setUp (f : Nat → Nd) (i u : Nat) : Nat → Nd := setAt f i { f i with up := u }
def setDn (f : Nat → Nd) (i : Nat) (s : Bool) (c : Nat) : Nat → Nd := setAt f i { f i with dn := fun t => if t = s then c else (f i).dn t }
def setRed (f : Nat → Nd) (i : Nat) (r : Bool) : Nat → Nd := setAt f i { f i with red := r }

/-- On which side of the node above it a place is. -/
def sideOf (st : St) (n : Nat) : Bool := decide ((st.nd (st.nd n).up).dn true = n)
def sd (s : Bool) : Int := if s then 1 else 0
/-- n hangs on a side of up; or it is the root. -/
def St.join1 (st : St) (up : Nat) (s : Bool) (n : Nat) : St := if up = 0 then { st with root := n } else { st with nd := setDn st.nd up s n }
def St.join (st : St) (up : Nat) (s : Bool) (n : Nat) : St := if n = 0 then st.join1 up s n else { st.join1 up s n with nd := setUp (st.join1 up s n).nd n up }

/-- The shape of a tree of places. -/
inductive Tr where
  | nil
  | node (p : Nat) (l r : Tr)
def Tr.list : Tr → List Nat
  | .nil => []
  | .node p l r => l.list ++ p :: r.list
def Tr.root : Tr → Nat
  | .nil => 0
  | .node p _ _ => p
def Tr.size : Tr → Nat
  | .nil => 0
  | .node _ l r => l.size + r.size + 1
/-- A node, with what hangs on a side, and on the other one. -/
def mk (s : Bool) (p : Nat) (a b : Tr) : Tr := if s then .node p b a else .node p a b
/-- What is round a tree. -/
inductive Cx where
  | top
  | fr (s : Bool) (p : Nat) (sib : Tr) (up : Cx)
def Cx.plug : Cx → Tr → Tr
  | .top, t => t
  | .fr s p sib up, t => up.plug (mk s p t sib)
def Cx.par : Cx → Nat
  | .top => 0
  | .fr _ p _ _ => p
def Cx.rootOf : Cx → Nat → Nat
  | .top, n => n
  | .fr _ p _ up, _ => up.rootOf p
def Cx.depth : Cx → Nat
  | .top => 0
  | .fr _ _ _ up => up.depth + 1
def Cx.places : Cx → List Nat
  | .top => []
  | .fr _ p sib up => p :: (sib.list ++ up.places)

/-- The links are those of a tree below u. -/
def Sh (nd : Nat → Nd) : Tr → Nat → Prop
  | .nil, _ => True
  | .node p l r, u => p ≠ 0 ∧ (nd p).up = u ∧ (nd p).dn false = l.root ∧ (nd p).dn true = r.root ∧ Sh nd l p ∧ Sh nd r p
def ShC (nd : Nat → Nd) : Cx → Nat → Prop
  | .top, _ => True
  | .fr s p sib up, n => p ≠ 0 ∧ (nd p).up = up.par ∧ (nd p).dn s = n ∧ (nd p).dn (!s) = sib.root ∧ Sh nd sib p ∧ ShC nd up p

theorem mk_root (s : Bool) (p : Nat) (a b : Tr) : (mk s p a b).root = p := by cases s <;> rfl
theorem sh_mk {nd : Nat → Nd} {s : Bool} {p u : Nat} {a b : Tr} : Sh nd (mk s p a b) u ↔ p ≠ 0 ∧ (nd p).up = u ∧ (nd p).dn s = a.root ∧ (nd p).dn (!s) = b.root ∧ Sh nd a p ∧ Sh nd b p := by
  cases s
  · exact Iff.rfl
  · show (_ ∧ _ ∧ _ ∧ _ ∧ _ ∧ _) ↔ _
    simp only [Bool.not_true]
    constructor
    · rintro ⟨h1, h2, h3, h4, h5, h6⟩; exact ⟨h1, h2, h4, h3, h6, h5⟩
    · rintro ⟨h1, h2, h3, h4, h5, h6⟩; exact ⟨h1, h2, h4, h3, h6, h5⟩
theorem sh_plug {nd : Nat → Nd} : ∀ (cx : Cx) (t : Tr), Sh nd (cx.plug t) 0 ↔ ShC nd cx t.root ∧ Sh nd t cx.par
  | .top, t => by simp [Cx.plug, ShC, Cx.par]
  | .fr s p sib up, t => by
    rw [Cx.plug, sh_plug up, mk_root, sh_mk]
    simp only [ShC, Cx.par]
    constructor
    · rintro ⟨h0, h1, h2, h3, h4, h5, h6⟩; exact ⟨⟨h1, h2, h3, h4, h6, h0⟩, h5⟩
    · rintro ⟨⟨h1, h2, h3, h4, h6, h0⟩, h5⟩; exact ⟨h0, h1, h2, h3, h4, h5, h6⟩
theorem plug_root : ∀ (cx : Cx) (t : Tr), (cx.plug t).root = cx.rootOf t.root
  | .top, _ => rfl
  | .fr s p sib up, t => by rw [Cx.plug, plug_root up, mk_root]; rfl
theorem sh_root_ne {nd : Nat → Nd} {t : Tr} {u : Nat} (h : Sh nd t u) (hr : t.root = 0) : t = .nil := by
  cases t with
  | nil => rfl
  | node p l r => exact absurd hr h.1
/-- The first place. -/
def Tr.fst (d : Nat) : Tr → Nat
  | .nil => d
  | .node p l _ => l.fst p
theorem fst_list : ∀ (t : Tr) (d : Nat), t.fst d = t.list.headD d
  | .nil, _ => rfl
  | .node p l r, d => by
    rw [Tr.fst, fst_list l p, Tr.list]
    cases l.list <;> rfl
end Go.Proofs.Ytihfldjoogaolaa
