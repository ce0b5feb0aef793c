import Derived.Test.YtihfldjoogaolaaTpMath9
namespace Go.Proofs.Ytihfldjoogaolaa

def emptied (tu : Int) (f : Nat) : Nd := ⟨0, 0, tu, false, false, 0, fun s => if s then 0 else f⟩
/-- The place is empty, and the first of the empty ones. -/
def St.clear (st : St) (n : Nat) (tu : Int) : St := ⟨setAt st.nd n (emptied tu st.free), st.root, n, st.count - 1⟩
theorem clear_at (st : St) (n : Nat) (tu : Int) : (st.clear n tu).nd n = emptied tu st.free := by unfold St.clear setAt; simp
theorem clear_other (st : St) (n : Nat) (tu : Int) (x : Nat) (h : x ≠ n) : (st.clear n tu).nd x = st.nd x := by unfold St.clear setAt; simp [h]

theorem mem_split {α : Type} [DecidableEq α] {x : α} {A B : List α} {n : α} (hx : x ∈ A ++ n :: B) (h : x ≠ n) : x ∈ A ++ B := by
  simp only [List.mem_append, List.mem_cons] at hx ⊢
  rcases hx with e | e | e
  · exact Or.inl e
  · exact absurd e h
  · exact Or.inr e

theorem drop_inv {P : Nat} {st st' : St} {t t' : Tr} {fl A B : List Nat} {n : Nat} {tu : Int} (hi : Inv P st t fl) (hg : Good P st' t') (hl : t.list = A ++ n :: B) (hl' : t'.list = A ++ B) (hk : Kept t.list st st') :
    Inv P (st'.clear n tu) t' (n :: fl) ∧ (∀ x, x ≠ n → SameK ((st'.clear n tu).nd x) (st.nd x)) ∧ ((st'.clear n tu).nd n).turn = tu := by
  have hnt : t.list.Nodup := hi.good.z.nd.nt
  have hnm : n ∈ t.list := by rw [hl]; simp
  have nn : n ∉ A ++ B := by
    rw [hl] at hnt
    intro e
    rw [List.nodup_append, List.nodup_cons] at hnt
    obtain ⟨h1, ⟨h2, h3⟩, h4⟩ := hnt
    rcases List.mem_append.1 e with e | e
    · exact h4 n e n (by simp) rfl
    · exact h2 e
  have n0 : n ≠ 0 := by
    intro e
    have := not_zero_mem hi.good.z.sh
    exact this (e ▸ hnm)
  have nP : n ≤ P := hi.good.z.nd.bt n hnm
  have nt' : n ∉ t'.list := by rw [hl']; exact nn
  have hx : ∀ x ∈ t'.list, x ≠ n := fun x hx e => nt' (e ▸ hx)
  have kx : ∀ x, x ≠ n → SameK ((st'.clear n tu).nd x) (st.nd x) := by
    intro x h
    rw [clear_other _ _ _ _ h]
    exact hk.key x
  have hcol : ∀ x ∈ t'.list, col (st'.clear n tu) x = col st' x := by
    intro x h
    show ((st'.clear n tu).nd x).red = _
    rw [clear_other _ _ _ _ (hx x h)]; rfl
  have sub : ∀ x ∈ t'.list, x ∈ t.list := by
    intro x h
    rw [hl'] at h
    rw [hl]
    simp only [List.mem_append, List.mem_cons] at h ⊢
    rcases h with e | e
    · exact Or.inl e
    · exact Or.inr (Or.inr e)
  refine ⟨⟨⟨⟨trivial, hg.z.sh.congr ?_, hg.z.nd, hg.z.root, ?_⟩, ?_, ?_⟩, ?_, ?_, ?_, ?_, ?_, ?_, ?_⟩, kx, ?_⟩
  · intro x h
    rw [clear_other _ _ _ _ (hx x h)]
    exact ⟨rfl, rfl⟩
  · rw [clear_other _ _ _ _ (fun e => n0 e.symm)]; exact hg.z.zero
  · obtain ⟨K, h⟩ := hg.rb
    exact ⟨K, h.congr hcol⟩
  · rw [redR_congr hcol]; exact hg.root
  · rw [hl']
    have hs := hi.srt
    rw [hl] at hs
    have hs' : Srt st (A ++ B) := List.Pairwise.sublist (List.Sublist.append (List.Sublist.refl _) (List.sublist_cons_self _ _)) hs
    refine List.Pairwise.imp_of_mem ?_ hs'
    intro x y h1 h2 h
    have e1 := kx x (fun e => nn (e ▸ h1))
    have e2 := kx y (fun e => nn (e ▸ h2))
    unfold kle at h ⊢
    rw [e1.1, e1.2.1, e2.1, e2.2.1]; exact h
  · intro x h
    by_cases e : x = n
    · subst e
      rw [clear_at]
      simp [emptied, nt']
    · rw [(kx x e).2.2.2, hi.fil x h, hl, hl']
      constructor
      · intro q; exact mem_split q e
      · intro q
        simp only [List.mem_append, List.mem_cons] at q ⊢
        rcases q with q | q
        · exact Or.inl q
        · exact Or.inr (Or.inr q)
  · refine ⟨rfl, n0, ?_⟩
    rw [clear_at]
    show Chain _ st'.free fl
    rw [hk.free]
    refine hi.chain.congr ?_
    intro x h
    obtain ⟨_, _, b3⟩ := hi.fbd x h
    rw [clear_other _ _ _ _ (show x ≠ n from fun e => b3 (e ▸ hnm)), hk.out x b3]
  · refine List.nodup_cons.2 ⟨fun e => (hi.fbd n e).2.2 hnm, hi.fnd⟩
  · intro x h
    rcases List.mem_cons.1 h with rfl | h
    · exact ⟨n0, nP, nt'⟩
    · obtain ⟨b1, b2, b3⟩ := hi.fbd x h
      exact ⟨b1, b2, fun e => b3 (sub x e)⟩
  · have := hi.cover
    rw [hl] at this
    rw [hl']
    simp only [List.length_append, List.length_cons] at this ⊢
    omega
  · have h1 := hi.count
    have h2 := hk.count
    rw [hl] at h1
    show st'.count - 1 = _
    rw [hl', h2, h1]
    simp only [List.length_append, List.length_cons]
    omega
  · rw [clear_at]; rfl

def Cx.comp : Cx → Cx → Cx
  | .top, b => b
  | .fr s p sib up, b => .fr s p sib (up.comp b)
theorem plug_comp : ∀ (c b : Cx) (t : Tr), (c.comp b).plug t = b.plug (c.plug t)
  | .top, _, _ => rfl
  | .fr s p sib up, b, t => by rw [Cx.comp, Cx.plug, Cx.plug, plug_comp up b]
theorem find_cx : ∀ (t : Tr) (n : Nat), n ∈ t.list → ∃ (cx : Cx) (l r : Tr), t = cx.plug (.node n l r)
  | .nil, _, h => by simp [Tr.list] at h
  | .node p l r, n, h => by
    simp only [Tr.list, List.mem_append, List.mem_cons] at h
    rcases h with h | rfl | h
    · obtain ⟨cx, a, b, e⟩ := find_cx l n h
      refine ⟨cx.comp (.fr false p r .top), a, b, ?_⟩
      rw [plug_comp, ← e]; rfl
    · exact ⟨.top, l, r, rfl⟩
    · obtain ⟨cx, a, b, e⟩ := find_cx r n h
      refine ⟨cx.comp (.fr true p l .top), a, b, ?_⟩
      rw [plug_comp, ← e]; rfl
end Go.Proofs.Ytihfldjoogaolaa
