import Derived.Test.YtihfldjoogaolaaTpMath2
namespace Go.Proofs.Ytihfldjoogaolaa

/-- The links of a place are what they were. -/
def SameL (x y : Nd) : Prop := x.up = y.up ∧ x.dn = y.dn
theorem Sh.congr {nd nd' : Nat → Nd} : ∀ {t : Tr} {u : Nat}, Sh nd t u → (∀ x ∈ t.list, SameL (nd' x) (nd x)) → Sh nd' t u
  | .nil, _, _, _ => trivial
  | .node p l r, u, ⟨h1, h2, h3, h4, h5, h6⟩, hs => by
    have hp := hs p (by simp [Tr.list])
    refine ⟨h1, by rw [hp.1]; exact h2, by rw [hp.2]; exact h3, by rw [hp.2]; exact h4, h5.congr (fun x hx => hs x (by simp [Tr.list, hx])), h6.congr (fun x hx => hs x (by simp [Tr.list, hx]))⟩
theorem ShC.congr {nd nd' : Nat → Nd} : ∀ {cx : Cx} {n : Nat}, ShC nd cx n → (∀ x ∈ cx.places, SameL (nd' x) (nd x)) → ShC nd' cx n
  | .top, _, _, _ => trivial
  | .fr s p sib up, n, ⟨h1, h2, h3, h4, h5, h6⟩, hs => by
    have hp := hs p (by simp [Cx.places])
    refine ⟨h1, by rw [hp.1]; exact h2, by rw [hp.2]; exact h3, by rw [hp.2]; exact h4, h5.congr (fun x hx => hs x (by simp [Cx.places, hx])), h6.congr (fun x hx => hs x (by simp [Cx.places, hx]))⟩
theorem root_mem {t : Tr} (h : t.root ≠ 0) : t.root ∈ t.list := by
  cases t with
  | nil => exact absurd rfl h
  | node p l r => simp [Tr.root, Tr.list]
/-- A tree that hangs elsewhere. -/
theorem Sh.move {nd nd' : Nat → Nd} {t : Tr} {u u' : Nat} (h : Sh nd t u) (hn : t.list.Nodup) (hd : ∀ x ∈ t.list, (nd' x).dn = (nd x).dn) (hu : ∀ x ∈ t.list, x ≠ t.root → (nd' x).up = (nd x).up)
    (hr : t.root ≠ 0 → (nd' t.root).up = u') : Sh nd' t u' := by
  cases t with
  | nil => trivial
  | node p l r =>
    obtain ⟨h1, h2, h3, h4, h5, h6⟩ := h
    have hn' := (nodup_mk (s := false)).1 hn
    obtain ⟨_, _, n1, n2, _⟩ := hn'
    refine ⟨h1, hr h1, by rw [hd p (by simp [Tr.list])]; exact h3, by rw [hd p (by simp [Tr.list])]; exact h4, h5.congr ?_, h6.congr ?_⟩
    · intro x hx
      exact ⟨hu x (by simp [Tr.list, hx]) (fun e => n1 ((show x = p from e) ▸ hx)), hd x (by simp [Tr.list, hx])⟩
    · intro x hx
      exact ⟨hu x (by simp [Tr.list, hx]) (fun e => n2 ((show x = p from e) ▸ hx)), hd x (by simp [Tr.list, hx])⟩

/-- What a join leaves alone. -/
def SameD (x y : Nd) : Prop := x.time = y.time ∧ x.seq = y.seq ∧ x.turn = y.turn ∧ x.filled = y.filled ∧ x.red = y.red
theorem join_up (st : St) (up : Nat) (s : Bool) (n x : Nat) : ((st.join up s n).nd x).up = if n ≠ 0 ∧ x = n then up else (st.nd x).up := by
  unfold St.join St.join1 setUp setDn setAt
  by_cases h1 : n = 0 <;> by_cases h2 : up = 0 <;> by_cases h3 : x = n <;> by_cases h4 : x = up <;> simp_all
theorem join_dn (st : St) (up : Nat) (s : Bool) (n x : Nat) (t : Bool) : ((st.join up s n).nd x).dn t = if up ≠ 0 ∧ x = up ∧ t = s then n else (st.nd x).dn t := by
  unfold St.join St.join1 setUp setDn setAt
  by_cases h1 : n = 0 <;> by_cases h2 : up = 0 <;> by_cases h3 : x = n <;> by_cases h4 : x = up <;> simp_all
  all_goals (split <;> simp_all)
theorem join_data (st : St) (up : Nat) (s : Bool) (n x : Nat) : SameD ((st.join up s n).nd x) (st.nd x) := by
  unfold St.join St.join1 setUp setDn setAt SameD
  by_cases h1 : n = 0 <;> by_cases h2 : up = 0 <;> by_cases h3 : x = n <;> by_cases h4 : x = up <;> simp_all
theorem join_root (st : St) (up : Nat) (s : Bool) (n : Nat) : (st.join up s n).root = if up = 0 then n else st.root := by
  unfold St.join St.join1
  by_cases h1 : n = 0 <;> by_cases h2 : up = 0 <;> simp_all
theorem join_free (st : St) (up : Nat) (s : Bool) (n : Nat) : (st.join up s n).free = st.free ∧ (st.join up s n).count = st.count := by
  unfold St.join St.join1
  by_cases h1 : n = 0 <;> by_cases h2 : up = 0 <;> simp_all

theorem par_mem {cx : Cx} (h : cx.par ≠ 0) : cx.par ∈ cx.places := by
  cases cx with
  | top => exact absurd rfl h
  | fr s p sib up => simp [Cx.par, Cx.places]
theorem not_zero_mem {nd : Nat → Nd} : ∀ {t : Tr} {u : Nat}, Sh nd t u → 0 ∉ t.list
  | .nil, _, _ => by simp [Tr.list]
  | .node p l r, _, ⟨h1, _, _, _, h5, h6⟩ => by
    simp only [Tr.list, List.mem_append, List.mem_cons, not_or]
    exact ⟨not_zero_mem h5, fun e => h1 e.symm, not_zero_mem h6⟩
theorem not_zero_memC {nd : Nat → Nd} : ∀ {cx : Cx} {n : Nat}, ShC nd cx n → 0 ∉ cx.places
  | .top, _, _ => by simp [Cx.places]
  | .fr s p sib up, _, ⟨h1, _, _, _, h5, h6⟩ => by
    simp only [Cx.places, List.mem_cons, List.mem_append, not_or]
    exact ⟨fun e => h1 e.symm, not_zero_mem h5, not_zero_memC h6⟩

/-- The context's own links, where what hangs in it has another root. -/
theorem ShC.hole {nd nd' : Nat → Nd} {cx : Cx} {n n' : Nat} (h : ShC nd cx n) (hn : cx.places.Nodup) (hu : ∀ x ∈ cx.places, (nd' x).up = (nd x).up)
    (hd : ∀ x ∈ cx.places, x ≠ cx.par → (nd' x).dn = (nd x).dn) (hp : cx.par ≠ 0 → (nd' cx.par).dn cx.side = n' ∧ (nd' cx.par).dn (!cx.side) = (nd cx.par).dn (!cx.side)) : ShC nd' cx n' := by
  cases cx with
  | top => trivial
  | fr s p sib up =>
    obtain ⟨h1, h2, h3, h4, h5, h6⟩ := h
    simp only [Cx.places, List.nodup_cons, List.mem_append, not_or] at hn
    obtain ⟨⟨n1, n2⟩, n3⟩ := hn
    have hp' := hp h1
    simp only [Cx.par, Cx.side] at hp'
    refine ⟨h1, by rw [hu p (by simp [Cx.places])]; exact h2, hp'.1, by rw [hp'.2]; exact h4, h5.congr ?_, h6.congr ?_⟩
    · intro x hx
      exact ⟨hu x (by simp [Cx.places, hx]), hd x (by simp [Cx.places, hx]) (fun e => n1 ((show x = p from e) ▸ hx))⟩
    · intro x hx
      exact ⟨hu x (by simp [Cx.places, hx]), hd x (by simp [Cx.places, hx]) (fun e => n2 ((show x = p from e) ▸ hx))⟩

theorem blank_join {st : St} {up : Nat} {s : Bool} {n : Nat} (h : Blank (st.nd 0)) : Blank ((st.join up s n).nd 0) := by
  obtain ⟨h1, h2, h3, h4⟩ := h
  have hd := join_data st up s n 0
  refine ⟨hd.2.2.2.1.trans h1, hd.2.2.2.2.trans h2, ?_, ?_⟩
  · rw [join_up, if_neg (by intro e; exact e.1 e.2.symm)]; exact h3
  · intro t
    rw [join_dn, if_neg (by intro e; exact e.1 e.2.1.symm)]; exact h4 t

/-- A tree is hung where a hole is. -/
theorem graft {P : Nat} {st : St} {cx : Cx} {r0 v : Nat} {t : Tr} (hc : ShC st.nd cx r0) (hr : st.root = cx.rootOf r0) (hz : Blank (st.nd 0)) (ht : Sh st.nd t v) (hn : ND P t cx) :
    Z P (st.join cx.par cx.side t.root) cx t := by
  have t0 := not_zero_mem ht
  have c0 := not_zero_memC hc
  refine ⟨?_, ?_, hn, ?_, blank_join hz⟩
  · refine hc.hole hn.nc ?_ ?_ ?_
    · intro x hx
      rw [join_up, if_neg]
      rintro ⟨h1, rfl⟩
      exact hn.d _ (root_mem h1) hx
    · intro x hx he
      funext s
      rw [join_dn, if_neg]
      rintro ⟨_, h2, _⟩
      exact he h2
    · intro hp
      rw [join_dn, if_pos ⟨hp, rfl, rfl⟩, join_dn, if_neg (by rintro ⟨_, _, h⟩; cases hs : cx.side <;> simp [hs] at h)]
      exact ⟨rfl, rfl⟩
  · refine ht.move hn.nt ?_ ?_ ?_
    · intro x hx
      funext s
      rw [join_dn, if_neg]
      rintro ⟨h1, rfl, _⟩
      exact hn.d _ hx (par_mem h1)
    · intro x hx he
      rw [join_up, if_neg]
      rintro ⟨_, h2⟩
      exact he h2
    · intro h
      rw [join_up, if_pos ⟨h, rfl⟩]
  · rw [join_root]
    cases cx with
    | top => simp [Cx.par, Cx.rootOf]
    | fr s p sib up =>
      rw [if_neg (show (Cx.fr s p sib up).par ≠ 0 from hc.1), hr]
      rfl

def St.rot (st : St) (n : Nat) (s : Bool) : St :=
  ((st.join n (!s) ((st.nd ((st.nd n).dn (!s))).dn s)).join ((st.nd n).dn (!s)) s n).join (st.nd n).up (sideOf st n) ((st.nd n).dn (!s))

theorem rot_z {P : Nat} {st : St} {cx : Cx} {s : Bool} {n c : Nat} {A B C : Tr} (h : Z P st cx (mk s n A (mk s c B C))) :
    Z P (st.rot n s) cx (mk s c (mk s n A B) C) := by
  obtain ⟨hc, hs, hn, hr, hz⟩ := h
  have hside : sideOf st n = cx.side := by
    cases s
    · exact sideOf_z (l := A) (r := mk false c B C) ⟨hc, hs, hn, hr, hz⟩
    · exact sideOf_z (l := mk true c B C) (r := A) ⟨hc, hs, hn, hr, hz⟩
  rw [mk_root] at hc hr
  obtain ⟨n0, hu, a1, a2, sA, sM⟩ := sh_mk.1 hs
  obtain ⟨c0, hcu, b1, b2, sB, sC⟩ := sh_mk.1 sM
  rw [mk_root] at a2
  obtain ⟨q1, q2, q3, q4, q5⟩ := nodup_mk.1 hn.nt
  obtain ⟨r1, r2, r3, r4, r5⟩ := nodup_mk.1 q2
  have nc : n ≠ c := fun e => q4 (mem_mk.2 (Or.inl e))
  have nB : n ∉ B.list := fun e => q4 (mem_mk.2 (Or.inr (Or.inl e)))
  have nC : n ∉ C.list := fun e => q4 (mem_mk.2 (Or.inr (Or.inr e)))
  have cA : c ∉ A.list := fun e => q5 c e (mem_mk.2 (Or.inl rfl))
  have AB : ∀ x ∈ A.list, x ∉ B.list := fun x hx e => q5 x hx (mem_mk.2 (Or.inr (Or.inl e)))
  have AC : ∀ x ∈ A.list, x ∉ C.list := fun x hx e => q5 x hx (mem_mk.2 (Or.inr (Or.inr e)))
  have dn : n ∉ cx.places := hn.d n (mem_mk.2 (Or.inl rfl))
  have dA : ∀ x ∈ A.list, x ∉ cx.places := fun x hx => hn.d x (mem_mk.2 (Or.inr (Or.inl hx)))
  have dc : c ∉ cx.places := hn.d c (mem_mk.2 (Or.inr (Or.inr (mem_mk.2 (Or.inl rfl)))))
  have dB : ∀ x ∈ B.list, x ∉ cx.places := fun x hx => hn.d x (mem_mk.2 (Or.inr (Or.inr (mem_mk.2 (Or.inr (Or.inl hx))))))
  have dC : ∀ x ∈ C.list, x ∉ cx.places := fun x hx => hn.d x (mem_mk.2 (Or.inr (Or.inr (mem_mk.2 (Or.inr (Or.inr hx))))))
  have hrot : st.rot n s = ((st.join n (!s) B.root).join c s n).join cx.par cx.side c := by unfold St.rot; rw [a2, b1, hu, hside]
  rw [hrot]
  have U : ∀ x, ((((st.join n (!s) B.root).join c s n).join cx.par cx.side c).nd x).up = if x = c then cx.par else if x = n then c else if B.root ≠ 0 ∧ x = B.root then n else (st.nd x).up := by
    intro x
    rw [join_up, join_up, join_up]
    simp only [ne_eq, c0, not_false_eq_true, true_and, n0]
  have D : ∀ x t, ((((st.join n (!s) B.root).join c s n).join cx.par cx.side c).nd x).dn t = if cx.par ≠ 0 ∧ x = cx.par ∧ t = cx.side then c else if x = c ∧ t = s then n else if x = n ∧ t = (!s) then B.root else (st.nd x).dn t := by
    intro x t
    rw [join_dn, join_dn, join_dn]
    simp only [ne_eq, c0, not_false_eq_true, true_and, n0]
  generalize hst' : ((st.join n (!s) B.root).join c s n).join cx.par cx.side c = st' at U D
  have same : ∀ x, x ≠ c → x ≠ n → x ∉ B.list → x ∉ cx.places → SameL (st'.nd x) (st.nd x) := by
    intro x h1 h2 h3 h4
    constructor
    · rw [U, if_neg h1, if_neg h2, if_neg]
      rintro ⟨g1, rfl⟩
      exact h3 (root_mem g1)
    · funext t
      rw [D, if_neg, if_neg, if_neg]
      · exact fun e => h2 e.1
      · exact fun e => h1 e.1
      · rintro ⟨g1, rfl, _⟩
        exact h4 (par_mem g1)
  have hss : (s = !s) = False := by cases s <;> simp
  refine ⟨?_, ?_, ?_, ?_, ?_⟩
  · rw [mk_root]
    refine hc.hole hn.nc ?_ ?_ ?_
    · intro x hx
      rw [U, if_neg (by intro e; exact dc (e ▸ hx)), if_neg (by intro e; exact dn (e ▸ hx)), if_neg]
      rintro ⟨g1, rfl⟩
      exact dB _ (root_mem g1) hx
    · intro x hx he
      funext t
      rw [D, if_neg (by intro e; exact he e.2.1), if_neg (by intro e; exact dc (e.1 ▸ hx)), if_neg (by intro e; exact dn (e.1 ▸ hx))]
    · intro hp
      have m := par_mem hp
      constructor
      · rw [D, if_pos ⟨hp, rfl, rfl⟩]
      · rw [D, if_neg (by rintro ⟨_, _, e⟩; cases q : cx.side <;> simp [q] at e), if_neg (by intro e; exact dc (e.1 ▸ m)), if_neg (by intro e; exact dn (e.1 ▸ m))]
  · refine sh_mk.2 ⟨c0, by rw [U, if_pos rfl], ?_, ?_, sh_mk.2 ⟨n0, by rw [U, if_neg nc, if_pos rfl], ?_, ?_, ?_, ?_⟩, ?_⟩
    · rw [mk_root, D, if_neg (by intro e; exact dc (e.2.1 ▸ par_mem e.1)), if_pos ⟨rfl, rfl⟩]
    · rw [D, if_neg (by intro e; exact dc (e.2.1 ▸ par_mem e.1)), if_neg (by rintro ⟨_, e⟩; rw [← e] at hss; cases s <;> simp at e), if_neg (by intro e; exact nc e.1.symm)]; exact b2
    · rw [D, if_neg (by intro e; exact dn (e.2.1 ▸ par_mem e.1)), if_neg (by intro e; exact nc e.1), if_neg (by rintro ⟨_, e⟩; rw [hss] at e; exact e)]; exact a1
    · rw [D, if_neg (by intro e; exact dn (e.2.1 ▸ par_mem e.1)), if_neg (by intro e; exact nc e.1), if_pos ⟨rfl, rfl⟩]
    · exact sA.congr (fun x hx => same x (fun e => cA (e ▸ hx)) (fun e => q3 (e ▸ hx)) (AB x hx) (dA x hx))
    · refine sB.move r1 ?_ ?_ ?_
      · intro x hx
        funext t
        rw [D, if_neg (by intro e; exact dB x hx (e.2.1 ▸ par_mem e.1)), if_neg (by intro e; exact r3 (e.1 ▸ hx)), if_neg (by intro e; exact nB (e.1 ▸ hx))]
      · intro x hx he
        rw [U, if_neg (by intro e; exact r3 (e ▸ hx)), if_neg (by intro e; exact nB (e ▸ hx)), if_neg (by intro e; exact he e.2)]
      · intro hb
        have m := root_mem hb
        rw [U, if_neg (by intro e; exact r3 (e ▸ m)), if_neg (by intro e; exact nB (e ▸ m)), if_pos ⟨hb, rfl⟩]
    · exact sC.congr (fun x hx => same x (fun e => r4 (e ▸ hx)) (fun e => nC (e ▸ hx)) (fun e => r5 x e hx) (dC x hx))
  · have hm : ∀ x, x ∈ (mk s c (mk s n A B) C).list ↔ x ∈ (mk s n A (mk s c B C)).list := by
      intro x
      simp only [mem_mk]
      constructor
      · rintro (h | (h | h | h) | h) <;> simp [h]
      · rintro (h | h | (h | h | h)) <;> simp [h]
    refine ⟨nodup_mk.2 ⟨nodup_mk.2 ⟨q1, r1, q3, nB, AB⟩, r2, ?_, r4, ?_⟩, hn.nc, fun x hx => hn.d x ((hm x).1 hx), fun x hx => hn.bt x ((hm x).1 hx), hn.bc⟩
    · rw [mem_mk]
      rintro (e | e | e)
      · exact nc e.symm
      · exact cA e
      · exact r3 e
    · intro x hx
      rcases mem_mk.1 hx with rfl | e | e
      · exact nC
      · exact AC x e
      · exact r5 x e
  · rw [mk_root, ← hst', join_root]
    cases cx with
    | top => simp [Cx.par, Cx.rootOf]
    | fr s' p sib up =>
      rw [if_neg (show (Cx.fr s' p sib up).par ≠ 0 from hc.1), join_root, if_neg c0, join_root, if_neg n0, hr]
      rfl
  · rw [← hst']
    exact blank_join (blank_join (blank_join hz))
end Go.Proofs.Ytihfldjoogaolaa
