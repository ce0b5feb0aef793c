/- Flat data: of a type that is made of integers, bools and strings alone (structs and arrays of such), each cell that is read is one of the kind that the type says; rows of such elements are opened at every place. -/
import Derived.OpenShut
import Derived.Deep.Slices
import Derived.Lib.SmallJoins
import Derived.Test.YtjjdkkdnlnbedaaGreatRows
namespace Go.Proofs.YtjjdkkdnlnbedaaGreat
open Go.ChangeShapes Go.WideShapes Go.RowKit

inductive LeafT where
  | int (k : IntKind)
  | bool
  | string
def LeafT.is : LeafT → Value → Prop
  | .int k, v => ∃ n, v = .int k n ∧ (Lit.int k n).wf = true
  | .bool, v => ∃ b, v = .bool b
  | .string, v => ∃ s : ByteArray, v = .string s ∧ s.size ≤ maxLen
/-- What lies at a cell of a type. -/
def leafAt (P : Program) : Nat → TypeId → Nat → Option LeafT
  | 0, _, _ => none
  | n + 1, t, k =>
    match P.underlying t with
    | some (.int kd) => if k = 0 then some (.int kd) else none
    | some .bool => if k = 0 then some .bool else none
    | some .string => if k = 0 then some .string else none
    | some (.struct fs) =>
      match fs.toList.find? (fun f => decide (f.offset ≤ k) && decide (k < f.offset + P.cellsOf f.type)) with
      | some f => leafAt P n f.type (k - f.offset)
      | none => none
    | some (.array m e) => if k / P.cellsOf e < m ∧ 0 < P.cellsOf e then leafAt P n e (k % P.cellsOf e) else none
    | _ => none

section
variable {H : Type} {enc : TypeId × Value → H} {P : Program} {w : World} {base : Nat} {spare : Nat → Bool} {held : Bool}
theorem take_drop_get {α : Type} (l : List α) (a c k : Nat) (h : k < c) : ((l.drop a).take c)[k]? = l[a + k]? := by
  rw [List.getElem?_take, if_pos h, List.getElem?_drop]
theorem leaf_of : ∀ (n : Nat) (t : TypeId) (k : Nat) (l : LeafT) (fuel : Nat) (cs : List Value) (x : DataW H × List MemPlace),
    leafAt P n t k = some l → DataW.trod enc P w base spare held fuel t cs = some x → ∃ v, cs[k]? = some v ∧ l.is v
  | 0, _, _, _, _, _, _, h, _ => by simp [leafAt] at h
  | n + 1, t, k, l, fuel, cs, x, h, ht => by
    unfold leafAt at h
    split at h
    · rename_i kd hu
      split at h
      · rename_i hk
        cases h
        obtain ⟨z, rfl, -, hz⟩ := DataW.trod_int hu ht
        subst hk
        exact ⟨_, rfl, z, rfl, hz⟩
      · cases h
    · rename_i hu
      split at h
      · rename_i hk
        cases h
        obtain ⟨z, rfl, -⟩ := DataW.trod_bool hu ht
        subst hk
        exact ⟨_, rfl, z, rfl⟩
      · cases h
    · rename_i hu
      split at h
      · rename_i hk
        cases h
        obtain ⟨z, rfl, -, hz⟩ := DataW.trod_string hu ht
        subst hk
        exact ⟨_, rfl, z, rfl, hz⟩
      · cases h
    · rename_i fs hu
      split at h
      · rename_i f hf
        have hp := List.find?_some hf
        simp only [Bool.and_eq_true, decide_eq_true_eq] at hp
        obtain ⟨i, hi⟩ := List.getElem?_of_mem (List.mem_of_find?_eq_some hf)
        obtain ⟨xs, m, -, -, -, hlen, hfs⟩ := DataW.trod_struct hu ht
        have hi' : fs[i]? = some f := by simpa using hi
        have h1 := hfs i f hi'
        have hil : i < xs.length := by
          rw [hlen]
          by_cases c : i < fs.size
          · exact c
          · rw [Array.getElem?_eq_none (by omega)] at hi'; cases hi'
        rw [List.getElem?_eq_getElem hil] at h1
        obtain ⟨v, hv, hl⟩ := leaf_of n f.type (k - f.offset) l m _ _ h h1
        rw [take_drop_get _ _ _ _ (by omega), show f.offset + (k - f.offset) = k by omega] at hv
        exact ⟨v, hv, hl⟩
      · cases h
    · rename_i m e hu
      split at h
      · rename_i hc
        obtain ⟨xs, q, -, -, -, hlen, hfs⟩ := DataW.trod_array hu ht
        have h1 := hfs (k / P.cellsOf e) hc.1
        have hil : k / P.cellsOf e < xs.length := by rw [hlen]; exact hc.1
        rw [List.getElem?_eq_getElem hil] at h1
        obtain ⟨v, hv, hl⟩ := leaf_of n e (k % P.cellsOf e) l q _ _ h h1
        rw [take_drop_get _ _ _ _ (Nat.mod_lt _ hc.2), Nat.mul_comm, Nat.div_add_mod] at hv
        exact ⟨v, hv, hl⟩
      · cases h
    · cases h

/-- A row of elements of K cells: nil, or memory up to its capacity. -/
def SRow (K : Nat) (w : World) (a : Option Addr) (len cap : Nat) (V : Nat → Nat → Value) : Prop :=
  (a = none ∧ len = 0 ∧ cap = 0) ∨
  ∃ x, a = some x ∧ len ≤ cap ∧ cap ≤ maxLen ∧ ∀ i, i < cap → ∀ j, j < K → w.cell? (x.add (i * K + j)) = some (V i j)
theorem open_rows {t e : TypeId} {K n fuel : Nat} {a : Option Addr} {len cap : Nat} {x : DataW H × List MemPlace} (ht : P.underlying t = some (.slice e)) (hK : P.cellsOf e = K)
    (h : DataW.trod enc P w base (fun _ => true) held fuel t [.slice a len cap] = some x) :
    ∃ V : Nat → Nat → Value, SRow K w a len cap V ∧ ∀ i, i < cap → ∀ j l, j < K → leafAt P n e j = some l → l.is (V i j) := by
  rcases Go.Deep.open_slice ht h with ⟨h0, -⟩ | ⟨x, len', cap', m, q, D, Pl, h0, hb, hle, hm, hmm, -, hx⟩
  · simp only [List.cons.injEq, Value.slice.injEq, and_true] at h0
    obtain ⟨rfl, rfl, rfl⟩ := h0
    exact ⟨fun _ _ => undef, .inl ⟨rfl, rfl, rfl⟩, fun i hi => absurd hi (Nat.not_lt_zero _)⟩
  · simp only [List.cons.injEq, Value.slice.injEq, and_true] at h0
    obtain ⟨rfl, rfl, rfl⟩ := h0
    simp only [if_true] at hmm
    subst hmm
    rw [hK] at hx
    have key : ∀ i, i < m → ∃ f : Nat → Value, ∀ j, j < K → w.cell? (x.add (i * K + j)) = some (f j) ∧ ∀ l, leafAt P n e j = some l → l.is (f j) := by
      intro i hi
      obtain ⟨cs, h1, h2⟩ := hx i hi
      refine ⟨fun j => cs.getD j undef, fun j hj => ?_⟩
      obtain ⟨_, hlen, hcell⟩ := World.cells?_some h1
      have hj' : j < cs.length := by omega
      have e1 : cs[j]? = some (cs.getD j undef) := by simp [List.getD, List.getElem?_eq_getElem hj']
      refine ⟨?_, fun l hl' => ?_⟩
      · have := hcell j hj
        rw [Go.Deep.add_add] at this
        rw [this, e1]
      · obtain ⟨v, hv, hlv⟩ := leaf_of n e j l q cs _ hl' h2
        rw [e1] at hv
        cases hv
        exact hlv
    have : Inhabited (Nat → Value) := ⟨fun _ => undef⟩
    obtain ⟨V, hV⟩ := Go.Deep.choose_lt key
    exact ⟨V, .inr ⟨x, rfl, hle, hm, fun i hi j hj => (hV i hi j hj).1⟩, fun i hi j l hj hl' => (hV i hi j hj).2 l hl'⟩
theorem rows_int {k : IntKind} {n : Nat} {e : TypeId} {K cap j : Nat} {V : Nat → Nat → Value} (h : ∀ i, i < cap → ∀ j l, j < K → leafAt P n e j = some l → l.is (V i j)) (hj : j < K)
    (hl : leafAt P n e j = some (.int k)) : ∃ z : Nat → Int, ∀ i, i < cap → V i j = .int k (z i) ∧ (Lit.int k (z i)).wf = true :=
  Go.Deep.choose_lt fun i hi => h i hi j _ hj hl
theorem rows_bool {n : Nat} {e : TypeId} {K cap j : Nat} {V : Nat → Nat → Value} (h : ∀ i, i < cap → ∀ j l, j < K → leafAt P n e j = some l → l.is (V i j)) (hj : j < K)
    (hl : leafAt P n e j = some .bool) : ∃ z : Nat → Bool, ∀ i, i < cap → V i j = .bool (z i) :=
  Go.Deep.choose_lt fun i hi => h i hi j _ hj hl
/-- A flat struct that came in by value. -/
theorem open_flat {r : Reach} {b0 : Nat} {t : TypeId} {K n : Nat} {fs : Array Field} {v : Value} {d : DataW H} {p : List MemPlace} (hs : P.underlying t = some (.struct fs)) (hC : P.cellsOf t = K)
    (hv : Value.okWide P w r b0 t v) (h : DataW.Trod enc P w base spare held t v d p) :
    ∃ cs : Array Value, v = .agg cs ∧ cs.size = K ∧ ∀ j l, leafAt P n t j = some l → ∃ u, cs[j]? = some u ∧ l.is u := by
  obtain ⟨cs, rfl, hsz⟩ := Go.WideShapes.okWide_struct hs hv
  obtain ⟨fuel, hf⟩ := h
  refine ⟨cs, rfl, hsz.trans hC, fun j l hl => ?_⟩
  obtain ⟨u, hu, hl'⟩ := leaf_of n t j l fuel _ _ hl hf
  exact ⟨u, by simpa [Value.cells] using hu, hl'⟩
/-- A flat array that came in by value. -/
theorem open_flat_arr {r : Reach} {b0 : Nat} {t e : TypeId} {K n m : Nat} {v : Value} {d : DataW H} {p : List MemPlace} (hs : P.underlying t = some (.array m e)) (hC : P.cellsOf t = K)
    (hv : Value.okWide P w r b0 t v) (h : DataW.Trod enc P w base spare held t v d p) :
    ∃ cs : Array Value, v = .agg cs ∧ cs.size = K ∧ ∀ j l, leafAt P n t j = some l → ∃ u, cs[j]? = some u ∧ l.is u := by
  simp only [Value.okWide, hs] at hv
  obtain ⟨cs, rfl, hsz, -⟩ := hv
  obtain ⟨fuel, hf⟩ := h
  refine ⟨cs, rfl, hsz.trans hC, fun j l hl => ?_⟩
  obtain ⟨u, hu, hl'⟩ := leaf_of n t j l fuel _ _ hl hf
  exact ⟨u, by simpa [Value.cells] using hu, hl'⟩
end
end Go.Proofs.YtjjdkkdnlnbedaaGreat
