/- Rows of ints that a call owns: reading, appending one, making an empty one. -/
import Derived.Test.YtkglaklkbodjkaaBas
import Derived.Test.YtkglaklkbodjkaaBlk
import Derived.Deep.Onto
import Derived.Laws.MakeOwn
namespace Go.Proofs.Ytkglaklkbodjkaa
open Go.RowKit

/-- A row of whole numbers that a call owns: it lies in a block from B on. -/
def Ir (w : World) (B : Nat) (v : Value) (l : List Int) : Prop := w.ownsRow B 3 1 v l.length (l.map (Value.int .i64))
theorem iInfo : (Try.prog.info? 3).map (fun i => (i.zero, i.size, i.bytes)) = some (some (.int .i64 0), 1, 8) := by kernel_rfl
theorem iparts {i : Option TypeInfo} {z : Value} {s b : Nat} (h : i.map (fun i => (i.zero, i.size, i.bytes)) = some (some z, s, b)) : ∃ i0, i = some i0 ∧ i0.zero = some z ∧ i0.size = s ∧ i0.bytes = b := by
  cases i with
  | none => cases h
  | some i0 =>
    simp only [Option.map_some, Option.some.injEq, Prod.mk.injEq] at h
    exact ⟨i0, rfl, h.1, h.2.1, h.2.2⟩
theorem iadd0 (g k : Nat) : (⟨g, 0, none⟩ : Addr).add k = ⟨g, k, none⟩ := by
  unfold Addr.add
  split
  · rename_i h; rw [h]
  · simp
section
variable {w w' : World} {B : Nat} {v : Value} {l : List Int}
theorem Ir.keep (h : Ir w B v l) (hb : ∀ g, B ≤ g → g < w.heap.size → w'.heap[g]? = w.heap[g]?) : Ir w' B v l := by
  refine ⟨h.1, ?_⟩
  rcases h.2 with h2 | ⟨g, cap, cur, h1, h2, h3, h4⟩
  · exact .inl h2
  · refine .inr ⟨g, cap, cur, h1, h2, ?_, h4⟩
    have hl : g < w.heap.size := (h.lt g (by rw [h1]; rfl)).2
    rw [hb g h2 hl]; exact h3
theorem Ir.below (h : Ir w B v l) (hb : Below w.heap.size w w') : Ir w' B v l := h.keep fun g _ hl => hb.block g hl
theorem Ir.mono (h : Ir w B v l) {B' : Nat} (hb : B' ≤ B) : Ir w B' v l := World.ownsRow.mono h hb
theorem Ir.nil (w : World) (B : Nat) : Ir w B (.slice none 0 0) [] := World.ownsRow_nil _ _ _ _
/-- What a row reads as. -/
theorem Ir.form (h : Ir w B v l) : ∃ a cap, v = .slice a l.length cap ∧ ∀ j x, l[j]? = some x → ∃ g, a = some ⟨g, 0, none⟩ ∧ w.cell? ⟨g, j, none⟩ = some (.int .i64 x) := by
  rcases h.2 with ⟨h2, h3⟩ | ⟨g, cap, cur, h1, h2, h3, h4⟩
  · refine ⟨none, 0, by rw [h2, h3], fun j x hj => ?_⟩
    have : l = [] := List.length_eq_zero_iff.1 h3
    subst this
    simp at hj
  · refine ⟨_, cap, h1, fun j x hj => ⟨g, rfl, ?_⟩⟩
    have e := World.ownsRow.cells h (g := g) (by rw [h1]; rfl) j (.int .i64 x) (by rw [List.getElem?_map, hj]; rfl)
    rw [iadd0] at e
    exact e
theorem Ir.grew {W : World} (h : Ir w B v l) (hb : Below B W w) (hB : B ≤ w.heap.size) {o : Obj} (hg : (w.alloc o).grownBy w' v.ownBlock) : Below B W w' :=
  (hb.alloc hB o).grown hg (by simp; omega) fun j hj => (World.ownsRow.lt h j hj).1
theorem Ir.made (w : World) (B : Nat) (cs : Array Value) (n : Nat) (hB : B ≤ w.heap.size) (hn : n ≤ 1000000) (hs : cs.size = n * 1) : Ir (w.alloc (.cells cs 3)) B (.slice (some ⟨w.heap.size, 0, none⟩) 0 n) [] :=
  World.ownsRow_made w cs n hB (by unfold maxLen; omega) hs
end
/-- Making an empty row with room for n. -/
theorem make_int (n : Nat) (hn : n ≤ 1000000) : ∃ cs : Array Value, cs.size = n * 1 ∧ ∀ w, (Instr.makeSlice 35 (.int .i64 0) (.int .i64 (n : Int))).run Try.prog w = .ok (.slice (some ⟨w.heap.size, 0, none⟩) 0 n) (w.alloc (.cells cs 3)) := by
  obtain ⟨i0, hi0, hz0, hz1, hz2⟩ := iparts iInfo
  refine ⟨madeCells (Value.int .i64 0).cells (n * i0.size), by rw [size_madeCells, hz1], fun w => ?_⟩
  have hr := run_make (P := Try.prog) w 35 3 i0 (.int .i64 0) Try.underlying35 hi0 hz0 .i64 .i64 0 n (Int.le_refl _) (by omega) (by rw [hz2]; omega) (by omega)
  simp only [Int.toNat_zero, Int.toNat_natCast] at hr
  exact hr
theorem app_int {ops : Array Oper} {rest : List Oper} {o : Oper} {a : Act} {Q : Exit → Act → World → Prop} {w0 : World} (hgd : o.guard = none) (s x : Operand)
    (ho : o.op = .call { callee := .builtin .append, args := #[s, x], argTypes := #[35, 35] }) (B : Nat) (v : Value) (l : List Int) (y : Int) (hs : a.eval s = v) (hrow : Ir w0 B v l)
    (g : Nat) (hg : w0.heap.size = g) (hx : a.eval x = .slice (some ⟨g, 0, none⟩) 1 1) (hB : B ≤ g) (hl : l.length ≤ 1000000)
    (h : ∀ v' w', Ir w' B v' (l ++ [y]) → (w0.alloc (.cells #[.int .i64 y] 3)).grownBy w' v.ownBlock → wpList Try.prog ops Q rest (a.put o.dst v') w') :
    wpList Try.prog ops Q (o :: rest) a (w0.alloc (.cells #[.int .i64 y] 3)) := by
  obtain ⟨i0, hi0, hz0, hz1, hz2⟩ := iparts iInfo
  refine wpList_append_own _ hgd s x 35 ho B 3 i0 (.int .i64 0) 1 8 Try.underlying35 hi0 hz0 hz1 hz2 rfl (by decide) v l.length (l.map (Value.int .i64)) hs (World.ownsRow.alloc hrow _) ⟨g, 0, none⟩ 1 1 [.int .i64 y] hx rfl ?_ ?_ (by unfold maxLen; omega) (by omega) (by simp; omega) ?_
  · intro j u hu
    rw [iadd0, (Blk.new_at w0 3 #[.int .i64 y] hg.symm).cell]
    simpa using hu
  · intro u hu
    simp only [List.mem_cons, List.not_mem_nil, or_false] at hu
    subst hu; rfl
  · intro v' w' h1 h2 _
    refine h v' w' ?_ h2
    unfold Ir
    rw [List.length_append, List.map_append]
    exact h1
end Go.Proofs.Ytkglaklkbodjkaa
