/- Rows of records of any flat type: what lies in them, what is appended. -/
import Derived.Test.YtihfldjoogaolaaFtp
import Derived.Deep.Onto
import Derived.Deep.RegionLaw
import Derived.Deep.AppendLies
import Derived.Laws.OwnMore
import Derived.Laws.MakeOwn
import Derived.Test.YtihfldjoogaolaaAp
namespace Go.Proofs.Ytihfldjoogaolaa
open Go.RowKit
set_option linter.unusedVariables false

/-- A kind of record: its type, its slices' type, how many cells and bytes it has, its cells. -/
structure Rec (P : Program) (α : Type) where
  e : TypeId
  ty : TypeId
  K : Nat
  bytes : Nat
  z : Value
  c : α → List Value
  pos : 0 < K
  len : ∀ x, (c x).length = K
  one : ∀ x, ∀ u ∈ c x, u.oneCell' = true
  und : P.underlying ty = some (.slice e)
  info : ∃ i, P.info? e = some i ∧ i.zero = some z ∧ i.size = K ∧ i.bytes = bytes
  hz : z.cells.size = K
  hb : bytes ≤ 1000
theorem rparts {i : Option TypeInfo} {z : Value} {s b : Nat} (h : i.map (fun i => (i.zero, i.size, i.bytes)) = some (some z, s, b)) : ∃ i0, i = some i0 ∧ i0.zero = some z ∧ i0.size = s ∧ i0.bytes = b := by
  cases i with
  | none => cases h
  | some i0 =>
    simp only [Option.map_some, Option.some.injEq, Prod.mk.injEq] at h
    exact ⟨i0, rfl, h.1, h.2.1, h.2.2⟩
theorem radd0 (g k : Nat) : (⟨g, 0, none⟩ : Addr).add k = ⟨g, k, none⟩ := by
  unfold Addr.add
  split
  · rename_i h; rw [h]
  · simp
theorem radd (g j k : Nat) : (⟨g, j, none⟩ : Addr).add k = ⟨g, j + k, none⟩ := by
  unfold Addr.add
  split
  · rename_i e; rw [e]; rfl
  · rfl
section
variable {P : Program} {α : Type} (R : Rec P α)
def Rec.row (L : List α) : List Value := L.flatMap R.c
theorem Rec.row_len (L : List α) : (R.row L).length = L.length * R.K := by
  induction L with
  | nil => simp [Rec.row]
  | cons y l ih =>
    unfold Rec.row at *
    rw [List.flatMap_cons, List.length_append, ih, R.len, List.length_cons, Nat.succ_mul, Nat.add_comm]
theorem Rec.row_app (p q : List α) : R.row (p ++ q) = R.row p ++ R.row q := by unfold Rec.row; rw [List.flatMap_append]
theorem Rec.row_one (L : List α) : ∀ u ∈ R.row L, u.oneCell' = true := by
  intro u hu
  obtain ⟨x, -, hx⟩ := List.mem_flatMap.1 hu
  exact R.one x u hx
theorem Rec.row_drop (p q : List α) (j : Nat) : (R.row (p ++ q))[p.length * R.K + j]? = (R.row q)[j]? := by
  rw [R.row_app, List.getElem?_append_right (by rw [R.row_len]; omega), R.row_len]
  congr 1
  omega
theorem Rec.row_at (L : List α) (i : Nat) (y : α) (h : L[i]? = some y) (k : Nat) (u : Value) (hu : (R.c y)[k]? = some u) : (R.row L)[i * R.K + k]? = some u := by
  obtain ⟨hi, he⟩ := List.getElem?_eq_some_iff.1 h
  have e1 : L = L.take i ++ y :: L.drop (i + 1) := by rw [← he, List.getElem_cons_drop, List.take_append_drop]
  have e2 : (L.take i).length = i := by rw [List.length_take]; omega
  have := R.row_drop (L.take i) (y :: L.drop (i + 1)) k
  rw [← e1, e2] at this
  rw [this]
  show (R.c y ++ _)[k]? = _
  rw [List.getElem?_append_left (List.getElem?_eq_some_iff.1 hu).1]
  exact hu
/-- A row of records that a call owns: it lies in a block from C on. -/
def Rg (w : World) (C : Nat) (v : Value) (L : List α) : Prop := w.ownsRow C R.e R.K v L.length (R.row L)
variable {R} {w w' : World} {C : Nat} {v : Value} {L : List α}
theorem Rg.keep (h : Rg R w C v L) (hb : ∀ g, v.ownBlock = some g → w'.heap[g]? = w.heap[g]?) : Rg R w' C v L := by
  refine ⟨h.1, ?_⟩
  rcases h.2 with h2 | ⟨g, cap, cur, h1, h2, h3, h4⟩
  · exact .inl h2
  · refine .inr ⟨g, cap, cur, h1, h2, ?_, h4⟩
    rw [hb g (by rw [h1]; rfl)]; exact h3
theorem Rg.below (h : Rg R w C v L) (hb : Below w.heap.size w w') : Rg R w' C v L := h.keep fun g hg => hb.block g (h.lt g hg).2
theorem Rg.ft {F : Nat → Prop} (h : Rg R w C v L) (k : Ft F w w') (hn : ∀ g, v.ownBlock = some g → ¬ F g) : Rg R w' C v L := h.keep fun g hg => k.block g (h.lt g hg).2 (hn g hg)
theorem Rg.mono (h : Rg R w C v L) {C' : Nat} (hb : C' ≤ C) : Rg R w C' v L := World.ownsRow.mono h hb
theorem Rg.nil (w : World) (C : Nat) : Rg R w C (.slice none 0 0) [] := World.ownsRow_nil _ _ _ _
theorem Rg.made (w : World) (cs : Array Value) (n : Nat) (hC : C ≤ w.heap.size) (hn : n ≤ 1000000) (hs : cs.size = n * R.K) : Rg R (w.alloc (.cells cs R.e)) C (.slice (some ⟨w.heap.size, 0, none⟩) 0 n) [] :=
  World.ownsRow_made w cs n hC (by unfold maxLen; omega) hs
theorem Rg.form (h : Rg R w C v L) : ∃ a cap, v = .slice a L.length cap ∧ L.length ≤ cap ∧ cap ≤ maxLen ∧ ∀ (j : Nat) (x : α), L[j]? = some x → ∃ g, a = some ⟨g, 0, none⟩ ∧ ∀ k u, (R.c x)[k]? = some u → w.cell? ⟨g, j * R.K + k, none⟩ = some u := by
  rcases h.2 with ⟨h2, h3⟩ | ⟨g, cap, cur, h1, h2, h3, h4, h5, _⟩
  · have : L = [] := List.length_eq_zero_iff.1 h3
    subst this
    exact ⟨none, 0, h2, Nat.le_refl _, by unfold maxLen; omega, fun j x hj => by simp at hj⟩
  · refine ⟨_, cap, h1, h4, h5, fun j x hj => ⟨g, rfl, fun k u hu => ?_⟩⟩
    have e1 := World.ownsRow.cells h (g := g) (by rw [h1]; rfl) _ _ (R.row_at L j x hj k u hu)
    rw [radd0] at e1
    exact e1
/-- Making an empty row with room for n. -/
theorem rg_make (R : Rec P α) (n : Nat) (hn : n ≤ 1000000) : ∃ cs : Array Value, cs.size = n * R.K ∧ ∀ w, (Instr.makeSlice R.ty (.int .i64 0) (.int .i64 (n : Int))).run P w = .ok (.slice (some ⟨w.heap.size, 0, none⟩) 0 n) (w.alloc (.cells cs R.e)) := by
  obtain ⟨i0, hi0, hz0, hz1, hz2⟩ := R.info
  refine ⟨madeCells R.z.cells (n * i0.size), by rw [size_madeCells, hz1], fun w => ?_⟩
  have hbb := R.hb
  have hm : n * R.bytes ≤ 1000000 * 1000 := Nat.mul_le_mul hn hbb
  have hr := run_make (P := P) w R.ty R.e i0 R.z R.und hi0 hz0 .i64 .i64 0 n (Int.le_refl _) (by omega) (by rw [hz2, Int.mul_comm, ← Int.natCast_mul]; have hm2 := hm; generalize n * R.bytes = mm at *; omega) (by omega)
  simp only [Int.toNat_zero, Int.toNat_natCast] at hr
  exact hr
/-- The parts of a row, as what is appended. -/
theorem rnews_pre {g cap : Nat} {pre post : List α} (h : Rg R w C (.slice (some ⟨g, 0, none⟩) (pre ++ post).length cap) (pre ++ post)) (c : Nat) :
    News w (.slice (some ⟨g, 0, none⟩) pre.length c) pre.length R.K (R.row pre) := by
  refine ⟨R.row_len pre, R.row_one pre, .inr ⟨_, c, rfl, fun j u hu => ?_⟩⟩
  refine World.ownsRow.cells h (g := g) rfl j u ?_
  rw [R.row_app, List.getElem?_append_left]
  · exact hu
  · exact (List.getElem?_eq_some_iff.1 hu).1
theorem rnews_post {g cap : Nat} {pre post : List α} (h : Rg R w C (.slice (some ⟨g, 0, none⟩) (pre ++ post).length cap) (pre ++ post)) (c : Nat) :
    News w (.slice (some ⟨g, pre.length * R.K, none⟩) post.length c) post.length R.K (R.row post) := by
  refine ⟨R.row_len post, R.row_one post, .inr ⟨_, c, rfl, fun j u hu => ?_⟩⟩
  have := World.ownsRow.cells h (g := g) rfl (pre.length * R.K + j) u (by rw [R.row_drop]; exact hu)
  rw [radd0] at this
  rw [radd]
  exact this
theorem rnews_from {g cap : Nat} {pre post : List α} (h : Rg R w C (.slice (some ⟨g, 0, none⟩) (pre ++ post).length cap) (pre ++ post)) {N : Nat} (hN : (pre ++ post).length = N) (hc : N ≤ cap) (c : Nat) :
    News w (.slice (if cap = pre.length then some ⟨g, 0, none⟩ else some ⟨g, pre.length * R.K, none⟩) (N - pre.length) c) post.length R.K (R.row post) := by
  have e : N - pre.length = post.length := by rw [← hN, List.length_append]; omega
  rw [e]
  by_cases hcp : cap = pre.length
  · have hp : post = [] := by
      apply List.length_eq_zero_iff.1
      rw [List.length_append] at hN
      omega
    subst hp
    rw [if_pos hcp]
    exact ⟨by simp [Rec.row], R.row_one [], .inr ⟨_, c, rfl, fun j u hu => by simp [Rec.row] at hu⟩⟩
  · rw [if_neg hcp]
    exact rnews_post h c
theorem rnews_nil (R : Rec P α) (w : World) : News w (.slice none 0 0) 0 R.K (R.row []) := ⟨by simp [Rec.row], R.row_one [], .inl ⟨rfl, rfl⟩⟩
theorem rnews_box (R : Rec P α) {b : Nat} {y : α} {cs : Array Value} (h : Blk w b R.e cs) (hc : cs.toList = R.c y) : News w (.slice (some ⟨b, 0, none⟩) 1 1) 1 R.K (R.row [y]) := by
  refine ⟨by rw [R.row_len]; rfl, R.row_one [y], .inr ⟨_, 1, rfl, fun j u hu => ?_⟩⟩
  rw [radd0, h.cell]
  have : R.row [y] = R.c y := by unfold Rec.row; simp
  rw [this, ← hc] at hu
  simpa using hu
theorem rown_empty (R : Rec P α) {w : World} {D b : Nat} (hD : D ≤ b) (hb : w.heap.size = b) : Rg R (w.alloc (.cells #[] R.e)) D (.slice (some ⟨b, 0, none⟩) 0 0) [] := by
  subst hb
  exact World.ownsRow_lit w #[] 0 hD (by unfold maxLen; omega) (by simp)
theorem Blk.grownR {w w' : World} {b : Nat} {t : TypeId} {cs : Array Value} {r : Option Nat} (h : Blk w b t cs) (hg : w.grownBy w' r) (hn : some b ≠ r) : Blk w' b t cs := by
  have hl := h.lt
  unfold Blk at *
  rw [hg.block b hl hn]; exact h
/-- An append in a region that draws. -/
theorem rstep_own (R : Rec P α) {ops : Array Oper} {o : Oper} {a : Act} {w : World} {K : Act → World → Prop} {Q : Exit → Act → World → Prop} {E : Prop}
    (hg : o.guard = none) (s x : Operand) (hop : o.op = .call { callee := .builtin .append, args := #[s, x], argTypes := #[R.ty, R.ty] }) {D : Nat} {w5 : World} (hD : w5.heap.size = D)
    (v : Value) (L : List α) (hs : a.eval s = v) (hown : Rg R w D v L) (M : List α) (hn : News w (a.eval x) M.length R.K (R.row M)) (hl : L.length + M.length ≤ 20000) (S : Below D w5 w)
    (hK : ∀ v' w', Rg R w' D v' (L ++ M) → Below D w5 w' → (∀ b t cs, Blk w b t cs → some b ≠ v.ownBlock → Blk w' b t cs) → K (a.put o.dst v') w') :
    if Region.wanted o (yielded ops a.tmps) = true then Oper.wp P o a w K Q else E := by
  obtain ⟨i0, hi0, hz0, hz1, hz2⟩ := R.info
  have hsz : D ≤ w.heap.size := by have := S.size; omega
  exact step_app hg s x R.ty hop D R.e i0 R.z R.K R.bytes R.und hi0 hz0 hz1 hz2 R.hz R.pos v L.length (R.row L) hs hown M.length (R.row M) hn (by omega) R.hb hsz
    fun v' w' q1 q2 => hK v' w' (by unfold Rg; rw [List.length_append, R.row_app]; exact q1) (S.grown q2 hsz fun j hj => (hown.lt j hj).1) fun b t cs h1 h2 => h1.grownR q2 h2
/-- An append where the order is kept. -/
theorem rlist_app (R : Rec P α) {ops : Array Oper} {rest : List Oper} {o : Oper} {a : Act} {w : World} {Q : Exit → Act → World → Prop} (hg : o.guard = none) (s x : Operand)
    (hop : o.op = .call { callee := .builtin .append, args := #[s, x], argTypes := #[R.ty, R.ty] }) (B : Nat) (v : Value) (L : List α) (hs : a.eval s = v) (hown : Rg R w B v L) (M : List α) (hn : News w (a.eval x) M.length R.K (R.row M))
    (h63 : L.length + M.length ≤ 1000000) (hbase : B ≤ w.heap.size)
    (hK : ∀ v' w', Rg R w' B v' (L ++ M) → w.grownBy w' v.ownBlock → wpList P ops Q rest (a.put o.dst v') w') : wpList P ops Q (o :: rest) a w := by
  obtain ⟨i0, hi0, hz0, hz1, hz2⟩ := R.info
  exact list_app hg s x R.ty hop B R.e i0 R.z R.K R.bytes R.und hi0 hz0 hz1 hz2 R.hz R.pos v L.length (R.row L) hs hown M.length (R.row M) hn h63 R.hb hbase
    fun v' w' q1 q2 => hK v' w' (by unfold Rg; rw [List.length_append, R.row_app]; exact q1) q2
end
end Go.Proofs.Ytihfldjoogaolaa
