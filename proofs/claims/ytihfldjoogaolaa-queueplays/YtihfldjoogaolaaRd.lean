/- Rows of records that are read: they may begin in the midst of a block. -/
import Derived.Test.YtihfldjoogaolaaRg
namespace Go.Proofs.Ytihfldjoogaolaa
open Go.RowKit
set_option linter.unusedVariables false

section
variable {P : Program} {α : Type} (R : Rec P α)
/-- A row that reads as L; it lies in a block from C on. -/
structure Rd (w : World) (C : Nat) (a : Option Addr) (n cap : Nat) (L : List α) : Prop where
  len : n = L.length
  le : n ≤ cap
  max : cap ≤ maxLen
  nil : a = none → cap = 0
  blk : ∀ x, a = some x → C ≤ x.block ∧ x.block < w.heap.size ∧ ∃ g o, x = ⟨g, o, none⟩
  cell : ∀ j y, L[j]? = some y → ∃ g o, a = some ⟨g, o, none⟩ ∧ ∀ k u, (R.c y)[k]? = some u → w.cell? ⟨g, o + j * R.K + k, none⟩ = some u
variable {R} {w w' : World} {C : Nat} {v : Value} {L : List α} {a : Option Addr} {n cap : Nat}
theorem Rd.keep (h : Rd R w C a n cap L) (hs : w.heap.size ≤ w'.heap.size) (hb : ∀ x, a = some x → w'.heap[x.block]? = w.heap[x.block]?) : Rd R w' C a n cap L := by
  refine ⟨h.len, h.le, h.max, h.nil, fun x e => ⟨(h.blk x e).1, Nat.lt_of_lt_of_le (h.blk x e).2.1 hs, (h.blk x e).2.2⟩, fun j y hj => ?_⟩
  obtain ⟨g, o, e, hc⟩ := h.cell j y hj
  refine ⟨g, o, e, fun k u hu => ?_⟩
  have h1 := hc k u hu
  have h2 := hb _ e
  unfold World.cell? at h1 ⊢
  simp only at h2 h1 ⊢
  rw [h2]; exact h1
theorem Rd.below (h : Rd R w C a n cap L) (hb : Below w.heap.size w w') : Rd R w' C a n cap L := h.keep hb.size fun x e => hb.block _ (h.blk x e).2.1
theorem Rd.ft {F : Nat → Prop} (h : Rd R w C a n cap L) (k : Ft F w w') (hn : ∀ x, a = some x → ¬ F x.block) : Rd R w' C a n cap L := h.keep k.size fun x e => k.block _ (h.blk x e).2.1 (hn x e)
theorem Rd.empty (w : World) (C : Nat) : Rd R w C none 0 0 [] := ⟨rfl, Nat.le_refl _, Nat.zero_le _, fun _ => rfl, (fun x e => by cases e), fun j y hj => by simp at hj⟩
theorem Rd.of (h : Rg R w C v L) : ∃ a cap, v = .slice a L.length cap ∧ Rd R w C a L.length cap L := by
  rcases h.2 with ⟨h2, h3⟩ | ⟨g, cap, cur, h1, h2, h3, h4, h5, _⟩
  · have : L = [] := List.length_eq_zero_iff.1 h3
    subst this
    exact ⟨none, 0, h2, Rd.empty w C⟩
  · refine ⟨_, cap, h1, rfl, h4, h5, (fun e => by cases e), (fun x e => by cases e; exact ⟨h2, (h.lt g (by rw [h1]; rfl)).2, g, 0, rfl⟩), fun j x hj => ⟨g, 0, rfl, fun k u hu => ?_⟩⟩
    have e1 := World.ownsRow.cells h (g := g) (by rw [h1]; rfl) _ _ (R.row_at L j x hj k u hu)
    rw [radd0] at e1
    rw [Nat.zero_add]
    exact e1
theorem Rd.tail {x : α} {g o : Nat} (h : Rd R w C (some ⟨g, o, none⟩) n cap (x :: L)) : Rd R w C (if cap = 1 then some ⟨g, o, none⟩ else some ⟨g, o + R.K, none⟩) (n - 1) (cap - 1) L := by
  have hl := h.len
  have hle := h.le
  have hmax := h.max
  simp only [List.length_cons] at hl
  obtain ⟨b1, b2, -⟩ := h.blk _ rfl
  by_cases e : cap = 1
  · rw [if_pos e]
    have hL : L = [] := List.length_eq_zero_iff.1 (by omega)
    subst hL
    exact ⟨by simp; omega, by omega, by omega, (fun q => by cases q), (fun y q => by cases q; exact ⟨b1, b2, g, o, rfl⟩), fun j y hj => by simp at hj⟩
  · rw [if_neg e]
    refine ⟨by omega, by omega, by omega, (fun q => by cases q), (fun y q => by cases q; exact ⟨b1, b2, g, _, rfl⟩), fun j y hj => ⟨g, o + R.K, rfl, fun k u hu => ?_⟩⟩
    obtain ⟨g', o', q, hc⟩ := h.cell (j + 1) y (by simpa using hj)
    cases q
    have := hc k u hu
    rw [Nat.succ_mul] at this
    rw [show o + R.K + j * R.K + k = o + (j * R.K + R.K) + k by omega]
    exact this
/-- The parts of a row, as what is appended. -/
theorem dnews_pre {pre post : List α} (h : Rd R w C a n cap (pre ++ post)) (c : Nat) (hc : a = none → c = 0) :
    News w (.slice a pre.length c) pre.length R.K (R.row pre) := by
  refine ⟨R.row_len pre, R.row_one pre, ?_⟩
  cases a with
  | none =>
    have h1 := h.nil rfl
    have h2 := h.le
    have h3 := h.len
    rw [List.length_append] at h3
    exact .inl ⟨by rw [hc rfl, show pre.length = 0 by omega], by omega⟩
  | some x =>
    obtain ⟨-, -, g, o, rfl⟩ := h.blk _ rfl
    refine .inr ⟨_, c, rfl, fun j u hu => ?_⟩
    rw [radd]
    have hj : j < pre.length * R.K := by rw [← R.row_len]; exact (List.getElem?_eq_some_iff.1 hu).1
    have hq : j / R.K < pre.length := Nat.div_lt_of_lt_mul (by rw [Nat.mul_comm]; exact hj)
    obtain ⟨y, hy⟩ : ∃ y, pre[j / R.K]? = some y := ⟨_, List.getElem?_eq_getElem hq⟩
    obtain ⟨g', o', q, hcl⟩ := h.cell (j / R.K) y (by rw [List.getElem?_append_left hq]; exact hy)
    cases q
    have hm : j % R.K < R.K := Nat.mod_lt _ R.pos
    obtain ⟨u', hu'⟩ : ∃ u', (R.c y)[j % R.K]? = some u' := ⟨_, List.getElem?_eq_getElem (by rw [R.len]; exact hm)⟩
    have h2 := R.row_at pre _ y hy _ u' hu'
    rw [Nat.mul_comm, Nat.div_add_mod] at h2
    rw [hu] at h2
    cases h2
    have := hcl _ _ hu'
    rw [show o + j / R.K * R.K + j % R.K = o + j by rw [Nat.add_assoc, Nat.mul_comm, Nat.div_add_mod]] at this
    exact this
theorem dnews_post {pre post : List α} {g o : Nat} (h : Rd R w C (some ⟨g, o, none⟩) n cap (pre ++ post)) (c : Nat) :
    News w (.slice (some ⟨g, o + pre.length * R.K, none⟩) post.length c) post.length R.K (R.row post) := by
  refine ⟨R.row_len post, R.row_one post, .inr ⟨_, c, rfl, fun j u hu => ?_⟩⟩
  rw [radd]
  have hj : j < post.length * R.K := by rw [← R.row_len]; exact (List.getElem?_eq_some_iff.1 hu).1
  have hq : j / R.K < post.length := Nat.div_lt_of_lt_mul (by rw [Nat.mul_comm]; exact hj)
  obtain ⟨y, hy⟩ : ∃ y, post[j / R.K]? = some y := ⟨_, List.getElem?_eq_getElem hq⟩
  obtain ⟨g', o', q, hcl⟩ := h.cell (pre.length + j / R.K) y (by rw [List.getElem?_append_right (Nat.le_add_right _ _), Nat.add_sub_cancel_left]; exact hy)
  cases q
  have hm : j % R.K < R.K := Nat.mod_lt _ R.pos
  obtain ⟨u', hu'⟩ : ∃ u', (R.c y)[j % R.K]? = some u' := ⟨_, List.getElem?_eq_getElem (by rw [R.len]; exact hm)⟩
  have h2 := R.row_at post _ y hy _ u' hu'
  rw [Nat.mul_comm, Nat.div_add_mod] at h2
  rw [hu] at h2
  cases h2
  have := hcl _ _ hu'
  rw [show o + (pre.length + j / R.K) * R.K + j % R.K = o + pre.length * R.K + j by
    rw [Nat.add_mul, ← Nat.add_assoc, Nat.add_assoc (o + pre.length * R.K), Nat.mul_comm (j / R.K), Nat.div_add_mod]] at this
  exact this
theorem dnews_from {pre post : List α} {g o : Nat} (h : Rd R w C (some ⟨g, o, none⟩) n cap (pre ++ post)) {N : Nat} (hN : (pre ++ post).length = N) (c : Nat) :
    News w (.slice (if cap = pre.length then some ⟨g, o, none⟩ else some ⟨g, o + pre.length * R.K, none⟩) (N - pre.length) c) post.length R.K (R.row post) := by
  have hl := h.len
  have hle := h.le
  have e : N - pre.length = post.length := by rw [← hN, List.length_append]; omega
  rw [e]
  by_cases hcp : cap = pre.length
  · have hp : post = [] := by
      apply List.length_eq_zero_iff.1
      rw [List.length_append] at hN hl
      omega
    subst hp
    rw [if_pos hcp]
    exact ⟨by simp [Rec.row], R.row_one [], .inr ⟨_, c, rfl, fun j u hu => by simp [Rec.row] at hu⟩⟩
  · rw [if_neg hcp]
    exact dnews_post h c
end
end Go.Proofs.Ytihfldjoogaolaa
