/- Maps of keys of any kind to elements of any kind that the program owns, as functions. -/
import Derived.Test.YtihfldjoogaolaaRows
import Derived.Test.YtihfldjoogaolaaBlk
import Derived.Maps.OwnSet
import Derived.Maps.OwnOps
import Derived.DeepKeys4
namespace Go.Proofs.Ytihfldjoogaolaa
open Go.RowKit

/-- How an element reads here: as itself. -/
def asIs (v : Value) : Option (DataW Value × List MemPlace) := some (.held v, [])
/-- Block b is a map that tells what f tells, keys by mk, elements by val; it has sz entries, and came by n stores. -/
def GMap {α β : Type} (P : Program) (k : TypeId) (mk : α → Value) (val : β → Value) (w : World) (b n : Nat) (f : α → Option β) (sz : Nat) : Prop :=
  ∃ D : DataW Value, w.ownsMap P k asIs b n D ∧ (∀ a kl, keyOf P k (mk a) = some kl → Maps.has D kl = (f a).isSome ∧ ∀ z, D.atKey kl (.held z) = .held (((f a).map val).getD z)) ∧ Maps.size D = sz
section
variable {α β : Type} {P : Program} {k t e : TypeId} {mk : α → Value} {val : β → Value} {w w' : World} {b n : Nat} {f : α → Option β} {sz : Nat}
theorem GMap.made (w : World) : GMap P k mk val (w.alloc (.map #[] 0)) w.heap.size 0 (fun _ : α => (none : Option β)) 0 :=
  ⟨.map [], World.ownsMap_made w _ _ _, fun _ _ _ => ⟨rfl, fun _ => rfl⟩, rfl⟩
theorem GMap.lt (h : GMap P k mk val w b n f sz) : b < w.heap.size := by obtain ⟨D, h, _⟩ := h; exact h.lt
theorem GMap.same (h : GMap P k mk val w b n f sz) (hb : w'.heap[b]? = w.heap[b]?) : GMap P k mk val w' b n f sz := by
  obtain ⟨D, ⟨es, clock, h1, h2⟩, h3⟩ := h
  exact ⟨D, ⟨es, clock, by rw [hb]; exact h1, h2⟩, h3⟩
theorem GMap.below (h : GMap P k mk val w b n f sz) {B : Nat} (hb : Below B w w') (hB : b < B) : GMap P k mk val w' b n f sz := h.same (hb.block b hB)
theorem GMap.grown (h : GMap P k mk val w b n f sz) {row : Option Nat} (hg : w.grownBy w' row) (hne : some b ≠ row) : GMap P k mk val w' b n f sz := h.same (hg.block b h.lt hne)
theorem GMap.set (h : GMap P k mk val w b n f sz) {c : Nat} (hk : c ≠ b) (j : Nat) (v : Value) : GMap P k mk val (w.setCell ⟨c, j, none⟩ v) b n f sz := h.same (Below.heap_setCell w ⟨c, j, none⟩ v b (fun e => hk e.symm))
theorem GMap.mono (h : GMap P k mk val w b n f sz) {n' : Nat} (hn : n ≤ n') : GMap P k mk val w b n' f sz := by
  obtain ⟨D, h1, h2⟩ := h
  exact ⟨D, h1.mono hn, h2⟩
theorem GMap.size_le (h : GMap P k mk val w b n f sz) : sz ≤ n := by
  obtain ⟨D, h1, _, h2⟩ := h
  rw [← h2]; exact h1.size_le
theorem GMap.congr (h : GMap P k mk val w b n f sz) {g : α → Option β} (hg : ∀ a, (keyOf P k (mk a)).isSome = true → g a = f a) : GMap P k mk val w b n g sz := by
  obtain ⟨D, h1, h2, h3⟩ := h
  exact ⟨D, h1, fun a kl ha => by rw [hg a (by rw [ha]; rfl)]; exact h2 a kl ha, h3⟩
theorem GMap.look_some (h : GMap P k mk val w b n f sz) (K : Go.Maps.Keyed P k) (ht : P.underlying t = some (.map k e)) {z : Value} (hz : (zeroValue e).run P w = .ok z w) (a : α) (ha : (keyOf P k (mk a)).isSome = true) {v : β} (hv : f a = some v) (c : Bool) :
    (Instr.lookup t (.map (some b)) (mk a) c).run P w = .ok (if c then .tuple #[val v, .bool true] else val v) w := by
  obtain ⟨D, h1, h2, _⟩ := h
  obtain ⟨kl, hkl⟩ := Option.isSome_iff_exists.1 ha
  obtain ⟨e1, e2⟩ := h2 a kl hkl
  cases c with
  | true =>
    obtain ⟨x, ps, hr, hx⟩ := h1.look_ok K ht hz (zd := .held z) (zp := []) rfl hkl
    rw [e2, hv] at hx
    cases hx
    rw [hr, e1, hv]; rfl
  | false =>
    obtain ⟨x, ps, hr, hx⟩ := h1.lookup K ht hz (zd := .held z) (zp := []) rfl hkl
    rw [e2, hv] at hx
    cases hx
    rw [hr]; rfl
theorem GMap.look_none (h : GMap P k mk val w b n f sz) (K : Go.Maps.Keyed P k) (ht : P.underlying t = some (.map k e)) {z : Value} (hz : (zeroValue e).run P w = .ok z w) (a : α) (ha : (keyOf P k (mk a)).isSome = true) (hv : f a = none) (c : Bool) :
    (Instr.lookup t (.map (some b)) (mk a) c).run P w = .ok (if c then .tuple #[z, .bool false] else z) w := by
  obtain ⟨D, h1, h2, _⟩ := h
  obtain ⟨kl, hkl⟩ := Option.isSome_iff_exists.1 ha
  obtain ⟨e1, e2⟩ := h2 a kl hkl
  cases c with
  | true =>
    obtain ⟨x, ps, hr, hx⟩ := h1.look_ok K ht hz (zd := .held z) (zp := []) rfl hkl
    rw [e2, hv] at hx
    cases hx
    rw [hr, e1, hv]; rfl
  | false =>
    obtain ⟨x, ps, hr, hx⟩ := h1.lookup K ht hz (zd := .held z) (zp := []) rfl hkl
    rw [e2, hv] at hx
    cases hx
    rw [hr]; rfl
theorem GMap.len (h : GMap P k mk val w b n f sz) (ht : P.underlying t = some (.map k e)) (ty : TypeId) : (Builtin.len_ #[t] ty #[.map (some b)]).run P w = .ok (.int .i64 (sz : Int)) w := by
  obtain ⟨D, h1, _, h3⟩ := h
  rw [h1.len ht ty, h3]
theorem GMap.upd [DecidableEq α] (h : GMap P k mk val w b n f sz) (K : Go.Maps.Keyed P k) (ht : P.underlying t = some (.map k e)) (hn : n < 1000000000) (hi : ∀ x y, mk x = mk y → x = y) (a : α) (ha : (keyOf P k (mk a)).isSome = true) (v : β) : ∃ w', (Instr.mapUpdate t (.map (some b)) (mk a) (val v)).run P w = .ok () w' ∧
    GMap P k mk val w' b (n + 1) (fun x => if x = a then some v else f x) (if (f a).isSome = true then sz else sz + 1) ∧ w.grownBy w' (some b) := by
  obtain ⟨D, h1, h2, h3⟩ := h
  obtain ⟨kl, hkl⟩ := Option.isSome_iff_exists.1 ha
  obtain ⟨w', hr, ho, hg⟩ := h1.update K ht (show n < maxLen by unfold maxLen; omega) hkl (val := val v) (d := .held (val v)) (ps := []) rfl
  refine ⟨w', hr, ⟨_, ho, fun x xl hx => ?_, ?_⟩, hg⟩
  · by_cases e : x = a
    · subst e
      rw [hkl] at hx
      cases hx
      show _ = (if x = x then some v else f x).isSome ∧ ∀ z, _ = DataW.held (((if x = x then some v else f x).map val).getD z)
      rw [if_pos rfl]
      exact ⟨Maps.has_put_same h1.isMap (K.key hkl) _, fun z => Maps.atKey_put_same h1.isMap (K.key hkl) _ _⟩
    · have hne : xl ≠ kl := fun he => e (hi _ _ (K.inj hx (he ▸ hkl)))
      show _ = (if x = a then some v else f x).isSome ∧ ∀ z, _ = DataW.held (((if x = a then some v else f x).map val).getD z)
      rw [if_neg e, Maps.has_put_other hne]
      exact ⟨(h2 x xl hx).1, fun z => by rw [Maps.atKey_put_other hne]; exact (h2 x xl hx).2 z⟩
  · rw [Maps.size_put (h1.tidy K), (h2 a kl hkl).1, h3]
theorem GMap.del [DecidableEq α] (h : GMap P k mk val w b n f sz) (K : Go.Maps.Keyed P k) (ht : P.underlying t = some (.map k e)) (hi : ∀ x y, mk x = mk y → x = y) (a : α) (ha : (keyOf P k (mk a)).isSome = true) (ty : TypeId) : ∃ w', (Builtin.delete_ #[t, k] ty #[.map (some b), mk a]).run P w = .ok (.tuple #[]) w' ∧
    GMap P k mk val w' b n (fun x => if x = a then none else f x) (if (f a).isSome = true then sz - 1 else sz) ∧ w.grownBy w' (some b) := by
  obtain ⟨D, h1, h2, h3⟩ := h
  obtain ⟨kl, hkl⟩ := Option.isSome_iff_exists.1 ha
  obtain ⟨w', hr, ho, ht'⟩ := h1.drop K ht hkl ty
  refine ⟨w', hr, ⟨_, ho, fun x xl hx => ?_, ?_⟩, ht'.grown⟩
  · by_cases e : x = a
    · subst e
      rw [hkl] at hx
      cases hx
      show _ = (if x = x then none else f x).isSome ∧ ∀ z, _ = DataW.held (((if x = x then none else f x).map val).getD z)
      rw [if_pos rfl]
      exact ⟨Maps.has_del_same, fun z => Maps.atKey_del_same _⟩
    · have hne : xl ≠ kl := fun he => e (hi _ _ (K.inj hx (he ▸ hkl)))
      show _ = (if x = a then none else f x).isSome ∧ ∀ z, _ = DataW.held (((if x = a then none else f x).map val).getD z)
      rw [if_neg e, Maps.has_del_other hne]
      exact ⟨(h2 x xl hx).1, fun z => by rw [Maps.atKey_del_other hne]; exact (h2 x xl hx).2 z⟩
  · have := Maps.size_del (k := kl) (h1.tidy K)
    rw [(h2 a kl hkl).1, h3] at this
    split
    · rename_i e; rw [e] at this; simp at this; omega
    · rename_i e
      rw [Bool.not_eq_true] at e
      rw [e] at this; simpa using this
end
/-- A number that an int holds. -/
def isI (k : Int) : Prop := (Lit.int .i64 k).wf = true
theorem isI_of {k : Int} (h0 : -9223372036854775808 ≤ k) (h1 : k ≤ 9223372036854775807) : isI k := by
  unfold isI
  simp [Lit.wf, IntKind.min, IntKind.max, IntKind.signed, IntKind.bits]
  omega
theorem isI_to {k : Int} (h : isI k) : -9223372036854775808 ≤ k ∧ k ≤ 9223372036854775807 := by
  unfold isI at h
  simp [Lit.wf, IntKind.min, IntKind.max, IntKind.signed, IntKind.bits] at h
  omega
end Go.Proofs.Ytihfldjoogaolaa
