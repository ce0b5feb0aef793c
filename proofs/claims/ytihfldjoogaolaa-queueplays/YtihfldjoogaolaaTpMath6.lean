import Derived.Test.YtihfldjoogaolaaTpMath5
namespace Go.Proofs.Ytihfldjoogaolaa

/-- Is a key ordered ahead of another one? -/
def klt (t1 s1 t2 s2 : Int) : Bool := if t1 = t2 then decide (s1 < s2) else decide (t1 < t2)
/-- Is the key of a place ordered ahead of that of another one? -/
def kle (st : St) (a b : Nat) : Bool := klt (st.nd a).time (st.nd a).seq (st.nd b).time (st.nd b).seq
/-- The way down that a key takes. -/
def Path (st : St) (n : Nat) : Cx → Prop
  | .top => True
  | .fr s p _ up => kle st n p = (!s) ∧ Path st n up

theorem klt_iff {a b c d : Int} : klt a b c d = true ↔ a < c ∨ (a = c ∧ b < d) := by
  unfold klt
  by_cases h : a = c
  · rw [if_pos h, decide_eq_true_eq]
    constructor
    · intro q; exact Or.inr ⟨h, q⟩
    · rintro (q | q)
      · omega
      · exact q.2
  · rw [if_neg h, decide_eq_true_eq]
    constructor
    · intro q; exact Or.inl q
    · rintro (q | q)
      · exact q
      · exact absurd q.1 h
theorem klt_not {a b c d : Int} : klt a b c d = false ↔ c < a ∨ (a = c ∧ d ≤ b) := by
  rw [← Bool.not_eq_true, klt_iff]
  omega
theorem kle_lt {st : St} {a b c : Nat} (h1 : kle st a b = true) (h2 : kle st c b = false) : kle st a c = true := by
  unfold kle at *
  rw [klt_iff] at *
  rw [klt_not] at h2
  omega
theorem kle_le {st : St} {a b c : Nat} (h1 : kle st a b = false) (h2 : kle st b c = false) : kle st a c = false := by
  unfold kle at *
  rw [klt_not] at *
  omega

def Cx.pre : Cx → List Nat
  | .top => []
  | .fr true p sib up => up.pre ++ (sib.list ++ [p])
  | .fr false _ _ up => up.pre
def Cx.post : Cx → List Nat
  | .top => []
  | .fr false p sib up => (p :: sib.list) ++ up.post
  | .fr true _ _ up => up.post
theorem plug_pp : ∀ (cx : Cx) (t : Tr), (cx.plug t).list = cx.pre ++ (t.list ++ cx.post)
  | .top, t => by simp [Cx.plug, Cx.pre, Cx.post]
  | .fr true p sib up, t => by
    rw [Cx.plug, plug_pp up]
    simp [mk, Tr.list, Cx.pre, Cx.post, List.append_assoc]
  | .fr false p sib up, t => by
    rw [Cx.plug, plug_pp up]
    simp [mk, Tr.list, Cx.pre, Cx.post, List.append_assoc]

/-- None is ordered ahead of one that stands ahead of it. -/
def Srt (st : St) (L : List Nat) : Prop := L.Pairwise (fun a b => kle st b a = false)
theorem path_pre {st : St} {n : Nat} : ∀ {cx : Cx}, Path st n cx → Srt st (cx.pre ++ cx.post) → (∀ x ∈ cx.pre, kle st n x = false) ∧ (∀ x ∈ cx.post, kle st n x = true)
  | .top, _, _ => by simp [Cx.pre, Cx.post]
  | .fr true p sib up, ⟨h1, h2⟩, hs => by
    simp only [Cx.pre, Cx.post] at hs ⊢
    have hs' : Srt st (up.pre ++ up.post) := by
      refine List.Pairwise.sublist ?_ hs
      rw [List.append_assoc]
      exact List.Sublist.append (List.Sublist.refl _) (List.sublist_append_right _ _)
    obtain ⟨i1, i2⟩ := path_pre h2 hs'
    refine ⟨?_, i2⟩
    intro x hx
    simp only [List.mem_append, List.mem_cons, List.not_mem_nil, or_false] at hx
    rcases hx with hx | hx | rfl
    · exact i1 x hx
    · unfold Srt at hs
      rw [List.pairwise_append, List.pairwise_append, List.pairwise_append] at hs
      have := hs.1.2.1.2.2 x hx p (by simp)
      cases q : kle st n x with
      | false => rfl
      | true =>
        have := kle_lt q this
        rw [h1] at this
        cases this
    · exact h1
  | .fr false p sib up, ⟨h1, h2⟩, hs => by
    simp only [Cx.pre, Cx.post] at hs ⊢
    have hs' : Srt st (up.pre ++ up.post) := by
      refine List.Pairwise.sublist ?_ hs
      exact List.Sublist.append (List.Sublist.refl _) (List.sublist_append_right _ _)
    obtain ⟨i1, i2⟩ := path_pre h2 hs'
    refine ⟨i1, ?_⟩
    intro x hx
    simp only [List.mem_append, List.mem_cons] at hx
    rcases hx with (rfl | hx) | hx
    · exact h1
    · unfold Srt at hs
      rw [List.pairwise_append, List.pairwise_append, List.pairwise_cons] at hs
      have := hs.2.1.1.1 x hx
      exact kle_lt h1 this
    · exact i2 x hx

theorem rb_unplug {c : Nat → Bool} : ∀ {cx : Cx} {t : Tr} {K : Nat}, RB c (cx.plug t) K → ∃ k, RB c t k ∧ RBC c cx k ∧ (redR c t = false ∨ redC c cx = false)
  | .top, t, K, h => ⟨K, h, trivial, Or.inr rfl⟩
  | .fr s p sib up, t, K, h => by
    obtain ⟨k, h1, h2, h3⟩ := rb_unplug (cx := up) h
    by_cases hp : c p = true
    · obtain ⟨g1, g2, g3, g4⟩ := (rb_red hp).1 h1
      refine ⟨k, g3, ⟨g4, ?_⟩, Or.inl g1⟩
      rw [if_pos hp]
      rw [redR_mk, hp] at h3
      refine ⟨g2, ?_, h2⟩
      rcases h3 with e | e
      · cases e
      · exact e
    · have hp' : c p = false := by simpa using hp
      obtain ⟨j, rfl, g3, g4⟩ := (rb_black hp').1 h1
      refine ⟨j, g3, ⟨g4, ?_⟩, Or.inr hp'⟩
      rw [if_neg hp]
      exact h2

/-- The empty places hang on each other. -/
def Chain (nd : Nat → Nd) : Nat → List Nat → Prop
  | f, [] => f = 0
  | f, x :: xs => f = x ∧ x ≠ 0 ∧ Chain nd ((nd x).dn false) xs
theorem Chain.congr {nd nd' : Nat → Nd} : ∀ {f : Nat} {l : List Nat}, Chain nd f l → (∀ x ∈ l, nd' x = nd x) → Chain nd' f l
  | _, [], h, _ => h
  | _, x :: xs, ⟨h1, h2, h3⟩, hs => ⟨h1, h2, by
    rw [hs x (by simp)]
    exact h3.congr (fun y hy => hs y (by simp [hy]))⟩

structure Inv (P : Nat) (st : St) (t : Tr) (fl : List Nat) : Prop where
  good : Good P st t
  srt : Srt st t.list
  fil : ∀ x, x ≤ P → ((st.nd x).filled = true ↔ x ∈ t.list)
  chain : Chain st.nd st.free fl
  fnd : fl.Nodup
  fbd : ∀ x ∈ fl, x ≠ 0 ∧ x ≤ P ∧ x ∉ t.list
  cover : t.list.length + fl.length = P
  count : st.count = t.list.length

def fresh (a b tu : Int) : Nd := ⟨a, b, tu, true, true, 0, fun _ => 0⟩
/-- The state in which the new node has its key, and does not hang yet. -/
def St.fill (st : St) (n : Nat) (a b : Int) : St := ⟨setAt st.nd n (fresh a b ((st.nd n).turn + 1)), st.root, (st.nd n).dn false, st.count + 1⟩

theorem fill_at (st : St) (n : Nat) (a b : Int) : (st.fill n a b).nd n = fresh a b ((st.nd n).turn + 1) := by unfold St.fill setAt; simp
theorem fill_other (st : St) (n : Nat) (a b : Int) (x : Nat) (h : x ≠ n) : (st.fill n a b).nd x = st.nd x := by unfold St.fill setAt; simp [h]

theorem fill_z {P : Nat} {st : St} {t : Tr} {n : Nat} {a b : Int} (hz : Z P st .top t) (hn : n ∉ t.list) (n0 : n ≠ 0) : Z P (st.fill n a b) .top t := by
  refine ⟨trivial, hz.sh.congr ?_, hz.nd, hz.root, ?_⟩
  · intro x hx
    rw [fill_other _ _ _ _ _ (show x ≠ n from fun e => hn (e ▸ hx))]
    exact ⟨rfl, rfl⟩
  · rw [fill_other _ _ _ _ _ (fun e => n0 e.symm)]; exact hz.zero

theorem put_red {P : Nat} {st : St} {t : Tr} {fl : List Nat} {n : Nat} {a b : Int} {cx : Cx} (hi : Inv P st t (n :: fl)) (hc : cx.plug .nil = t) :
    RedInv P ((st.fill n a b).join cx.par cx.side n) cx n .nil .nil 0 := by
  obtain ⟨n0, nP, nt⟩ := hi.fbd n (by simp)
  have hz2 : Z P (st.fill n a b) .top t := fill_z hi.good.z nt n0
  have hzc : Z P (st.fill n a b) cx .nil := by rw [z_top, hc]; exact hz2
  have nc : n ∉ cx.places := by
    intro e
    apply nt
    rw [← hc, mem_plug]
    exact Or.inr e
  have hnd : ND P (.node n .nil .nil) cx := by
    refine ⟨by simp [Tr.list], hzc.nd.nc, ?_, ?_, hzc.nd.bc⟩
    · intro x hx; simp [Tr.list] at hx; subst hx; exact nc
    · intro x hx; simp [Tr.list] at hx; subst hx; exact nP
  have hsh : Sh (st.fill n a b).nd (.node n .nil .nil) 0 := by
    refine ⟨n0, ?_, ?_, ?_, trivial, trivial⟩ <;> rw [fill_at] <;> rfl
  have hcol : ∀ x, x ≠ n → col ((st.fill n a b).join cx.par cx.side n) x = col st x := by
    intro x hx
    rw [col_join]
    show ((st.fill n a b).nd x).red = _
    rw [fill_other _ _ _ _ _ hx]; rfl
  have hred : col ((st.fill n a b).join cx.par cx.side n) n = true := by
    rw [col_join]
    show ((st.fill n a b).nd n).red = true
    rw [fill_at]; rfl
  have hcc : ∀ x ∈ cx.places, col ((st.fill n a b).join cx.par cx.side n) x = col st x := fun x hx => hcol x (fun e => nc (e ▸ hx))
  obtain ⟨K, hK⟩ := hi.good.rb
  rw [← hc] at hK
  obtain ⟨k, g1, g2, _⟩ := rb_unplug hK
  have k0 : k = 0 := g1
  subst k0
  refine ⟨graft hzc.shc hzc.root hzc.zero hsh hnd, hred, ?_, g2.congr hcc, ?_⟩
  · exact (rb_red (s := false) hred).2 ⟨rfl, rfl, rfl, rfl⟩
  · have := hi.good.root
    rw [← hc, redR_plug] at this
    rw [topRed_congr hcc]
    exact Or.inr this

theorem put_inv {P : Nat} {st : St} {t : Tr} {fl : List Nat} {n : Nat} {a b : Int} {cx : Cx} (hi : Inv P st t (n :: fl)) (hc : cx.plug .nil = t) (hp : Path (st.fill n a b) n cx)
    {st' : St} {t' : Tr} (hg : Good P st' t') (hl : t'.list = (cx.plug (.node n .nil .nil)).list) (hk : Kept (cx.plug (.node n .nil .nil)).list ((st.fill n a b).join cx.par cx.side n) st') :
    Inv P st' t' fl ∧ t'.list = cx.pre ++ n :: cx.post ∧ t.list = cx.pre ++ cx.post ∧ (∀ x ∈ cx.pre, kle st' n x = false) ∧ (∀ x ∈ cx.post, kle st' n x = true) ∧
      SameK (st'.nd n) (fresh a b ((st.nd n).turn + 1)) ∧ (∀ x, x ≠ n → SameK (st'.nd x) (st.nd x)) := by
  obtain ⟨n0, nP, nt⟩ := hi.fbd n (by simp)
  have hfn := List.nodup_cons.1 hi.fnd
  have l1 : t'.list = cx.pre ++ n :: cx.post := by rw [hl, plug_pp]; simp [Tr.list]
  have l2 : t.list = cx.pre ++ cx.post := by rw [← hc, plug_pp]; simp [Tr.list]
  have kn : SameK (st'.nd n) (fresh a b ((st.nd n).turn + 1)) := by
    have h1 := hk.key n
    have h2 := join_data (st.fill n a b) cx.par cx.side n n
    rw [fill_at] at h2
    exact ⟨h1.1.trans h2.1, h1.2.1.trans h2.2.1, h1.2.2.1.trans h2.2.2.1, h1.2.2.2.trans h2.2.2.2.1⟩
  have kx : ∀ x, x ≠ n → SameK (st'.nd x) (st.nd x) := by
    intro x hx
    have h1 := hk.key x
    have h2 := join_data (st.fill n a b) cx.par cx.side n x
    rw [fill_other _ _ _ _ _ hx] at h2
    exact ⟨h1.1.trans h2.1, h1.2.1.trans h2.2.1, h1.2.2.1.trans h2.2.2.1, h1.2.2.2.trans h2.2.2.2.1⟩
  have n2 : ∀ x ∈ t.list, x ≠ n := fun x hx e => nt (e ▸ hx)
  have kl1 : ∀ x ∈ t.list, ∀ y ∈ t.list, kle st' x y = kle st x y := by
    intro x hx y hy
    unfold kle
    rw [(kx x (n2 x hx)).1, (kx x (n2 x hx)).2.1, (kx y (n2 y hy)).1, (kx y (n2 y hy)).2.1]
  have kl2 : ∀ x ∈ t.list, kle st' n x = kle (st.fill n a b) n x := by
    intro x hx
    unfold kle
    rw [(kx x (n2 x hx)).1, (kx x (n2 x hx)).2.1, kn.1, kn.2.1, fill_at, fill_other _ _ _ _ _ (n2 x hx)]
  have kl3 : ∀ x ∈ t.list, ∀ y ∈ t.list, kle (st.fill n a b) x y = kle st x y := by
    intro x hx y hy
    unfold kle
    rw [fill_other _ _ _ _ _ (n2 x hx), fill_other _ _ _ _ _ (n2 y hy)]
  have hs0 : Srt (st.fill n a b) (cx.pre ++ cx.post) := by
    have := hi.srt
    rw [l2] at this
    refine List.Pairwise.imp_of_mem ?_ this
    intro x y hx hy h
    rw [kl3 y (by rw [l2]; exact hy) x (by rw [l2]; exact hx)]; exact h
  obtain ⟨p1, p2⟩ := path_pre hp hs0
  have q1 : ∀ x ∈ cx.pre, kle st' n x = false := fun x hx => by rw [kl2 x (by rw [l2]; simp [hx])]; exact p1 x hx
  have q2 : ∀ x ∈ cx.post, kle st' n x = true := fun x hx => by rw [kl2 x (by rw [l2]; simp [hx])]; exact p2 x hx
  refine ⟨⟨hg, ?_, ?_, ?_, hfn.2, ?_, ?_, ?_⟩, l1, l2, q1, q2, kn, kx⟩
  · rw [l1]
    have hs := hi.srt
    rw [l2] at hs
    unfold Srt at hs ⊢
    rw [List.pairwise_append] at hs
    rw [List.pairwise_append, List.pairwise_cons]
    obtain ⟨s1, s2, s3⟩ := hs
    have m1 : ∀ x ∈ cx.pre, x ∈ t.list := fun x hx => by rw [l2]; simp [hx]
    have m2 : ∀ x ∈ cx.post, x ∈ t.list := fun x hx => by rw [l2]; simp [hx]
    refine ⟨List.Pairwise.imp_of_mem (fun hx hy h => by rw [kl1 _ (m1 _ hy) _ (m1 _ hx)]; exact h) s1, ⟨?_, List.Pairwise.imp_of_mem (fun hx hy h => by rw [kl1 _ (m2 _ hy) _ (m2 _ hx)]; exact h) s2⟩, ?_⟩
    · intro y hy
      have := q2 y hy
      unfold kle at this ⊢
      rw [klt_iff] at this
      rw [klt_not]
      omega
    · intro x hx y hy
      rcases List.mem_cons.1 hy with rfl | hy
      · exact q1 x hx
      · rw [kl1 _ (m2 _ hy) _ (m1 _ hx)]
        exact s3 x hx y hy
  · intro x hx
    rw [l1]
    by_cases e : x = n
    · subst e
      have : (st'.nd x).filled = true := kn.2.2.2
      simp [this]
    · rw [(kx x e).2.2.2, hi.fil x hx, l2]
      simp [e]
  · have hf : st'.free = (st.nd n).dn false := by
      rw [hk.free, (join_free _ _ _ _).1]; rfl
    rw [hf]
    refine hi.chain.2.2.congr ?_
    intro x hx
    have xn : x ≠ n := fun e => hfn.1 (e ▸ hx)
    have xt : x ∉ t.list := (hi.fbd x (by simp [hx])).2.2
    have xl : x ∉ (cx.plug (.node n .nil .nil)).list := by
      rw [mem_plug]
      simp only [Tr.list, List.nil_append, List.mem_cons, List.not_mem_nil, or_false]
      rintro (e | e)
      · exact xn e
      · apply xt; rw [← hc, mem_plug]; exact Or.inr e
    rw [hk.out x xl, join_out, fill_other _ _ _ _ _ xn]
    · exact fun _ => xn
    · intro hpar e
      apply xt
      rw [← hc, mem_plug]
      exact Or.inr (e ▸ par_mem hpar)
  · intro x hx
    obtain ⟨b1, b2, b3⟩ := hi.fbd x (by simp [hx])
    refine ⟨b1, b2, ?_⟩
    rw [l1]
    rw [l2] at b3
    simp only [List.mem_append, List.mem_cons, not_or] at b3 ⊢
    exact ⟨b3.1, fun e => hfn.1 (e ▸ hx), b3.2⟩
  · have := hi.cover
    rw [l1]
    rw [l2] at this
    simp only [List.length_append, List.length_cons] at this ⊢
    omega
  · rw [hk.count, (join_free _ _ _ _).2, l1]
    have := hi.count
    rw [l2] at this
    show st.count + 1 = _
    simp only [List.length_append, List.length_cons] at this ⊢
    omega
end Go.Proofs.Ytihfldjoogaolaa
