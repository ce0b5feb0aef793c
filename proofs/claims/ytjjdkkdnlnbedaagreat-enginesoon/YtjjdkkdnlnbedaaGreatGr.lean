/- Ranging over a map of keys of any kind that is only read (GMap, told as a function). -/
import Derived.Test.YtjjdkkdnlnbedaaGreatQueA
import Derived.Maps.RangeWalk
namespace Go.Proofs.YtjjdkkdnlnbedaaGreat
open Go.RowKit

/-- Block r goes over block b, a map that tells what f tells. -/
def GRg {α β : Type} (P : Program) (k : TypeId) (mk : α → Value) (val : β → Value) (w : World) (b r n : Nat) (f : α → Option β) (left : Lit → Bool) (cnt : Nat) : Prop :=
  ∃ D : DataW Value, w.ranges P k asIs b r n D left cnt ∧ ∀ a kl, keyOf P k (mk a) = some kl → Maps.has D kl = (f a).isSome ∧ ∀ z, D.atKey kl (.held z) = .held (((f a).map val).getD z)
section
variable {α β : Type} {P : Program} {k t e : TypeId} {mk : α → Value} {val : β → Value} {w w' : World} {b r n : Nat} {f : α → Option β} {sz cnt : Nat} {left : Lit → Bool}
theorem GRg.left_eq (h : GRg P k mk val w b r n f left cnt) : w.rangeLeft b r = cnt := by obtain ⟨D, h, -⟩ := h; exact h.left_eq
theorem GRg.lt (h : GRg P k mk val w b r n f left cnt) : r < w.heap.size := by obtain ⟨D, h, -⟩ := h; exact h.lt
theorem GRg.alloc (h : GRg P k mk val w b r n f left cnt) (o : Obj) : GRg P k mk val (w.alloc o) b r n f left cnt := by obtain ⟨D, h, h2⟩ := h; exact ⟨D, h.alloc o, h2⟩
theorem GRg.kept {row : Option Nat} (h : GRg P k mk val w b r n f left cnt) (hg : w.grownBy w' row) (hb' : some b ≠ row) (hr' : some r ≠ row) : GRg P k mk val w' b r n f left cnt := by obtain ⟨D, h, h2⟩ := h; exact ⟨D, h.kept hg hb' hr', h2⟩
variable {ops : Array Oper} {rest : List Oper} {o : Oper} {a : Act} {Q : Exit → Act → World → Prop}
theorem wpList_range_g (hg : o.guard = none) (m : Operand) (t : TypeId) (hop : o.op = Op.range t m) (k e : TypeId) (K : Go.Maps.Keyed P k) (ht : P.underlying t = some (.map k e)) (hm : a.eval m = .map (some b)) (h : GMap P k mk val w b n f sz)
    (hK : ∀ w' left, GRg P k mk val w' b w.heap.size n f left sz → w.grownBy w' none → w'.heap.size = w.heap.size + 1 → wpList P ops Q rest (a.put o.dst (.pointer (some ⟨w.heap.size, 0, none⟩))) w') :
    wpList P ops Q (o :: rest) a w := by
  obtain ⟨D, h1, h2, h3⟩ := h
  refine wpList_range_own w hg m t hop k e K ht asIs b n D hm h1 fun w' r1 r2 r3 => hK w' _ ⟨D, h3 ▸ r1, h2⟩ r2 r3
theorem wpList_next_g (hg : o.guard = none) (it : Operand) (hop : o.op = Op.next it false) (k : TypeId) (K : Go.Maps.Keyed P k) (invK : ∀ key kl, keyOf P k key = some kl → ∃ x, key = mk x)
    (hit : a.eval it = .pointer (some ⟨r, 0, none⟩)) (h : GRg P k mk val w b r n f left cnt)
    (hDone : cnt = 0 → wpList P ops Q rest (a.put o.dst (.tuple #[.bool false])) w)
    (hMore : ∀ (x : α) (c : β) (w' : World) (left' : Lit → Bool) (cnt' : Nat), (keyOf P k (mk x)).isSome = true → f x = some c → GRg P k mk val w' b r n f left' cnt' → cnt' < cnt → w.grownBy w' (some r) → w'.heap.size = w.heap.size →
      (Instr.entry (.pointer (some ⟨r, 0, none⟩))).run P w' = .ok (.tuple #[mk x, val c]) w' → wpList P ops Q rest (a.put o.dst (.tuple #[.bool true, mk x, val c])) w') :
    wpList P ops Q (o :: rest) a w := by
  obtain ⟨D, h1, h2⟩ := h
  refine wpList_next_ranges w hg it hop k K asIs mk (fun v : Value => v) invK (fun v y _ => ⟨v, rfl⟩) b r n D left cnt hit h1 (fun q _ => hDone q) ?_
  intro x c kl y w' cnt' hk hl hy hat hr hlt hgr hsz hen
  obtain ⟨k1, k2⟩ := h2 x kl hk
  cases hf : f x with
  | none =>
    have e1 := (k2 (.bool true)).symm.trans ((hat (.held (.bool true))).trans (congrArg Prod.fst (Option.some.inj (show some (DataW.held c, ([] : List MemPlace)) = some y from hy))).symm)
    have e2 := (k2 (.bool false)).symm.trans ((hat (.held (.bool false))).trans (congrArg Prod.fst (Option.some.inj (show some (DataW.held c, ([] : List MemPlace)) = some y from hy))).symm)
    rw [hf] at e1 e2
    have e3 : DataW.held (Value.bool true) = DataW.held (Value.bool false) := e1.trans e2.symm
    cases e3
  | some v =>
    have e1 := (k2 (.bool true)).symm.trans ((hat (.held (.bool true))).trans (congrArg Prod.fst (Option.some.inj (show some (DataW.held c, ([] : List MemPlace)) = some y from hy))).symm)
    rw [hf] at e1
    have e2 : val v = c := by cases e1; rfl
    subst e2
    exact hMore x v w' _ cnt' (by rw [hk]; rfl) hf ⟨D, hr, h2⟩ hlt hgr hsz hen
end
end Go.Proofs.YtjjdkkdnlnbedaaGreat
