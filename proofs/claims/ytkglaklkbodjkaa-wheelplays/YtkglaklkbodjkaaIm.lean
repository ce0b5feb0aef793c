/- Maps of ints to ints that the program owns, as functions. -/
import Derived.Test.YtkglaklkbodjkaaIr
import Derived.Maps.OwnSet
import Derived.Maps.OwnOps
namespace Go.Proofs.Ytkglaklkbodjkaa
open Go.RowKit

theorem mapLaw : Go.Maps.Keyed Try.prog 3 := Go.Maps.int_keyed Try.underlying3
theorem zeroInt (w : World) : (zeroValue 3).run Try.prog w = .ok (.int .i64 0) w := by kernel_rfl
/-- A number that an int holds. -/
def isI (k : Int) : Prop := (Lit.int .i64 k).wf = true
theorem isI_of {k : Int} (h0 : -9223372036854775808 ≤ k) (h1 : k ≤ 9223372036854775807) : isI k := by
  unfold isI
  simp [Lit.wf, IntKind.min, IntKind.max, IntKind.signed, IntKind.bits]
  omega
/-- Block b is a map that tells what f tells; it has sz entries. -/
def IMap (w : World) (b n : Nat) (f : Int → Option Int) (sz : Nat) : Prop :=
  ∃ D : DataW Unit, w.ownsMap Try.prog 3 (plainElem Try.prog 3) b n D ∧ (∀ k, isI k → Maps.has D (.int .i64 k) = (f k).isSome ∧ D.atKey (.int .i64 k) (.lit (.int .i64 0)) = .lit (.int .i64 ((f k).getD 0))) ∧ Maps.size D = sz
theorem IMap.made (w : World) : IMap (w.alloc (.map #[] 0)) w.heap.size 0 (fun _ => none) 0 :=
  ⟨.map [], World.ownsMap_made w _ _ _, fun _ _ => ⟨rfl, rfl⟩, rfl⟩
section
variable {w w' : World} {b n : Nat} {f : Int → Option Int} {sz : Nat}
theorem IMap.lt (h : IMap w b n f sz) : b < w.heap.size := by obtain ⟨D, h, _⟩ := h; exact h.lt
theorem IMap.same (h : IMap w b n f sz) (hb : w'.heap[b]? = w.heap[b]?) : IMap w' b n f sz := by
  obtain ⟨D, ⟨es, clock, h1, h2⟩, h3⟩ := h
  exact ⟨D, ⟨es, clock, by rw [hb]; exact h1, h2⟩, h3⟩
theorem IMap.below (h : IMap w b n f sz) {B : Nat} (hb : Below B w w') (hB : b < B) : IMap w' b n f sz := h.same (hb.block b hB)
theorem IMap.grown (h : IMap w b n f sz) {row : Option Nat} (hg : w.grownBy w' row) (hne : some b ≠ row) : IMap w' b n f sz := h.same (hg.block b h.lt hne)
theorem IMap.set (h : IMap w b n f sz) {k : Nat} (hk : k ≠ b) (j : Nat) (v : Value) : IMap (w.setCell ⟨k, j, none⟩ v) b n f sz := h.same (Below.heap_setCell w ⟨k, j, none⟩ v b (fun e => hk e.symm))
theorem IMap.look (h : IMap w b n f sz) (k : Int) (hk : isI k) : (Instr.lookup 48 (.map (some b)) (.int .i64 k) false).run Try.prog w = .ok (.int .i64 ((f k).getD 0)) w := by
  obtain ⟨D, h1, h2, _⟩ := h
  obtain ⟨c, hr, hat, _⟩ := h1.lookup_int mapLaw Try.underlying48 Try.underlying3 (zeroInt w) (Go.Maps.keyOf_int_mk Try.underlying3 hk)
  rw [(h2 k hk).2] at hat
  cases hat
  exact hr
theorem IMap.look_ok (h : IMap w b n f sz) (k : Int) (hk : isI k) : (Instr.lookup 48 (.map (some b)) (.int .i64 k) true).run Try.prog w = .ok (.tuple #[.int .i64 ((f k).getD 0), .bool (f k).isSome]) w := by
  obtain ⟨D, h1, h2, _⟩ := h
  obtain ⟨v, ps, hr, hv⟩ := h1.look_ok mapLaw Try.underlying48 (zeroInt w) (plainElem_int Try.underlying3 (show (Lit.int .i64 0).wf = true by decide)) (Go.Maps.keyOf_int_mk Try.underlying3 hk)
  rw [(h2 k hk).2] at hv
  obtain ⟨c, rfl, hc, _⟩ := plainElem_int_inv Try.underlying3 hv
  rw [hr, (h2 k hk).1]
  simp only [Prod.mk.injEq, DataW.lit.injEq, Lit.int.injEq, true_and] at hc
  rw [hc.1]
theorem IMap.len (h : IMap w b n f sz) (ty : TypeId) : (Builtin.len_ #[48] ty #[.map (some b)]).run Try.prog w = .ok (.int .i64 (sz : Int)) w := by
  obtain ⟨D, h1, _, h3⟩ := h
  rw [h1.len Try.underlying48 ty, h3]
theorem IMap.upd (h : IMap w b n f sz) (hn : n < 1000000) (k v : Int) (hk : isI k) (hv : isI v) : ∃ w', (Instr.mapUpdate 48 (.map (some b)) (.int .i64 k) (.int .i64 v)).run Try.prog w = .ok () w' ∧
    IMap w' b (n + 1) (fun x => if x = k then some v else f x) (if (f k).isSome = true then sz else sz + 1) ∧ w.grownBy w' (some b) := by
  obtain ⟨D, h1, h2, h3⟩ := h
  obtain ⟨w', hr, ho, hg⟩ := h1.update mapLaw Try.underlying48 (show n < maxLen by unfold maxLen; omega) (Go.Maps.keyOf_int_mk Try.underlying3 hk) (plainElem_int Try.underlying3 hv)
  refine ⟨w', hr, ⟨_, ho, fun x hx => ?_, ?_⟩, hg⟩
  · by_cases e : x = k
    · subst e
      show _ = (if x = x then some v else f x).isSome ∧ _ = DataW.lit (.int .i64 ((if x = x then some v else f x).getD 0))
      rw [if_pos rfl]
      exact ⟨Maps.has_put_same h1.isMap (show Go.WideAt.IsKeyLit (.int .i64 x) from trivial) _, Maps.atKey_put_same h1.isMap (show Go.WideAt.IsKeyLit (.int .i64 x) from trivial) _ _⟩
    · have hne : (Lit.int .i64 x) ≠ .int .i64 k := fun h => e (by cases h; rfl)
      show _ = (if x = k then some v else f x).isSome ∧ _ = DataW.lit (.int .i64 ((if x = k then some v else f x).getD 0))
      rw [if_neg e, Maps.has_put_other hne, Maps.atKey_put_other hne]
      exact h2 x hx
  · rw [Maps.size_put (h1.tidy mapLaw), (h2 k hk).1, h3]
theorem IMap.del (h : IMap w b n f sz) (k : Int) (hk : isI k) (ty : TypeId) : ∃ w', (Builtin.delete_ #[48, 3] ty #[.map (some b), .int .i64 k]).run Try.prog w = .ok (.tuple #[]) w' ∧
    IMap w' b n (fun x => if x = k then none else f x) (if (f k).isSome = true then sz - 1 else sz) ∧ w.grownBy w' (some b) := by
  obtain ⟨D, h1, h2, h3⟩ := h
  obtain ⟨w', hr, ho, ht⟩ := h1.drop mapLaw Try.underlying48 (Go.Maps.keyOf_int_mk Try.underlying3 hk) ty
  refine ⟨w', hr, ⟨_, ho, fun x hx => ?_, ?_⟩, ht.grown⟩
  · by_cases e : x = k
    · subst e
      show _ = (if x = x then none else f x).isSome ∧ _ = DataW.lit (.int .i64 ((if x = x then none else f x).getD 0))
      rw [if_pos rfl]
      exact ⟨Maps.has_del_same, Maps.atKey_del_same _⟩
    · have hne : (Lit.int .i64 x) ≠ .int .i64 k := fun h => e (by cases h; rfl)
      show _ = (if x = k then none else f x).isSome ∧ _ = DataW.lit (.int .i64 ((if x = k then none else f x).getD 0))
      rw [if_neg e, Maps.has_del_other hne, Maps.atKey_del_other hne]
      exact h2 x hx
  · have := Maps.size_del (k := .int .i64 k) (h1.tidy mapLaw)
    rw [(h2 k hk).1, h3] at this
    split
    · rename_i e; rw [e] at this; simp at this; omega
    · rename_i e
      rw [Bool.not_eq_true] at e
      rw [e] at this; simpa using this
end
end Go.Proofs.Ytkglaklkbodjkaa
