import Derived.Test.YtjjdkkdnlnbedaaGreatTreeA
import Derived.Deep.Onto
import Derived.Deep.RegionLaw
import Derived.Laws.OwnMore
import Derived.Test.YtjjdkkdnlnbedaaGreatQueA
import Derived.Deep.AppendLies
import Derived.Laws.MakeOwn
import Derived.Test.YtjjdkkdnlnbedaaGreatQueC
import Derived.Test.YtjjdkkdnlnbedaaGreatTreeE
/- Appending to a row that a call owns, as a step of a region that draws its order. -/
namespace Go.Proofs.YtjjdkkdnlnbedaaGreat
open Go.RowKit

/-- What is appended: nothing (a nil slice), or so many elements whose cells are these. -/
def News (w : World) (x : Value) (m size : Nat) (news : List Value) : Prop :=
  news.length = m * size ∧ (∀ u ∈ news, u.oneCell' = true) ∧ ((x = .slice none 0 0 ∧ m = 0) ∨ ∃ ad c, x = .slice (some ad) m c ∧ ∀ j u, news[j]? = some u → w.cell? (ad.add j) = some u)
theorem News.below {w w' : World} {x : Value} {m size : Nat} {news : List Value} (h : News w x m size news) (hb : Below w.heap.size w w') : News w' x m size news := by
  refine ⟨h.1, h.2.1, ?_⟩
  rcases h.2.2 with h2 | ⟨ad, c, h2, h3⟩
  · exact .inl h2
  · refine .inr ⟨ad, c, h2, fun j u hu => ?_⟩
    have := h3 j u hu
    rw [hb.cell (World.block_lt_of_cell? w _ this)]
    exact this
/-- What news are, in every world in which the old blocks stand. -/
def NewsIn (W : World) (x : Value) (m size : Nat) (news : List Value) : Prop := ∀ w', Below W.heap.size W w' → News w' x m size news
theorem News.held {W : World} {x : Value} {m size : Nat} {news : List Value} (h : News W x m size news) : NewsIn W x m size news := fun _ hb => h.below hb
theorem step_app {P : Program} {ops : Array Oper} {o : Oper} {a : Act} {w : World} {K : Act → World → Prop} {Q : Exit → Act → World → Prop} {E : Prop}
    (hg : o.guard = none) (s x : Operand) (t : TypeId) (hop : o.op = .call { callee := .builtin .append, args := #[s, x], argTypes := #[t, t] })
    (B : Nat) (e : TypeId) (i : TypeInfo) (z : Value) (size bytes : Nat) (ht : P.underlying t = some (.slice e)) (hi : P.info? e = some i) (hz : i.zero = some z)
    (hsize : i.size = size) (hby : i.bytes = bytes) (hzs : z.cells.size = size) (hsz : 0 < size)
    (v : Value) (n : Nat) (xs : List Value) (hs : a.eval s = v) (hown : w.ownsRow B e size v n xs) (m : Nat) (news : List Value) (hn : News w (a.eval x) m size news)
    (h63 : n + m ≤ 1000000) (hb : bytes ≤ 1000) (hbase : B ≤ w.heap.size)
    (hK : ∀ v' w', w'.ownsRow B e size v' (n + m) (xs ++ news) → w.grownBy w' v.ownBlock → K (a.put o.dst v') w') :
    if Region.wanted o (yielded ops a.tmps) = true then Oper.wp P o a w K Q else E := by
  have hw : Region.wanted o (yielded ops a.tmps) = true := by simp [Region.wanted, hg]
  rw [if_pos hw]
  have hmul : (n + m) * bytes ≤ 1000000 * 1000 := Nat.mul_le_mul h63 hb
  obtain ⟨h1, h2, h3⟩ := hn
  rcases h3 with ⟨hx, rfl⟩ | ⟨ad, c, hx, hc⟩
  · have hnil : news = [] := by
      apply List.length_eq_zero_iff.1
      rw [h1]; simp
    subst hnil
    have hr := run_append_owned_none (P := P) w B t o.type e i size ht hi v n xs hown
    unfold Oper.wp execOp
    simp only [hop, resolve, invoke, builtin, Sem.run_bind, Sem.run_pure, Result.andThen_ok, List.map_toArray, List.map_cons, List.map_nil, hs, hx, hr]
    refine hK v w (by simpa using hown) ⟨rfl, rfl, rfl, Nat.le_refl _, fun _ _ _ => rfl⟩
  · exact wp_append_own w s x t hop B e i z size bytes ht hi hz hsize hby hzs hsz v n xs hs hown ad m c news hx h1 hc h2 (by unfold maxLen; omega) (by omega) hbase fun v' w' q1 q2 _ => hK v' w' q1 q2
/-- The same in a region that keeps its order. -/
theorem list_app {P : Program} {ops : Array Oper} {rest : List Oper} {o : Oper} {a : Act} {w : World} {Q : Exit → Act → World → Prop} (hg : o.guard = none) (s x : Operand) (t : TypeId)
    (hop : o.op = .call { callee := .builtin .append, args := #[s, x], argTypes := #[t, t] })
    (B : Nat) (e : TypeId) (i : TypeInfo) (z : Value) (size bytes : Nat) (ht : P.underlying t = some (.slice e)) (hi : P.info? e = some i) (hz : i.zero = some z)
    (hsize : i.size = size) (hby : i.bytes = bytes) (hzs : z.cells.size = size) (hsz : 0 < size)
    (v : Value) (n : Nat) (xs : List Value) (hs : a.eval s = v) (hown : w.ownsRow B e size v n xs) (m : Nat) (news : List Value) (hn : News w (a.eval x) m size news)
    (h63 : n + m ≤ 1000000) (hb : bytes ≤ 1000) (hbase : B ≤ w.heap.size)
    (hK : ∀ v' w', w'.ownsRow B e size v' (n + m) (xs ++ news) → w.grownBy w' v.ownBlock → wpList P ops Q rest (a.put o.dst v') w') : wpList P ops Q (o :: rest) a w := by
  refine wpList_plain hg fun K hK2 => ?_
  have := step_app (P := P) (ops := ops) (o := o) (a := a) (w := w) (K := K) (Q := Q) (E := True) hg s x t hop B e i z size bytes ht hi hz hsize hby hzs hsz v n xs hs hown m news hn h63 hb hbase fun v' w' q1 q2 => hK2 _ _ (hK v' w' q1 q2)
  have hw : Region.wanted o (yielded ops a.tmps) = true := by simp [Region.wanted, hg]
  rw [if_pos hw] at this
  exact this
end Go.Proofs.YtjjdkkdnlnbedaaGreat


/- Rows of records of any flat type: what lies in them, what is appended. -/
namespace Go.Proofs.YtjjdkkdnlnbedaaGreat
open Go.RowKit
set_option linter.unusedVariables false

/-- A kind of record: its type, its slices' type, how many cells and bytes it has, its cells. -/
structure Rec (P : Program) (α : Type) where
  e : TypeId
  ty : TypeId
  K : Nat
  bytes : Nat
  z : Value
  c : α → List Value
  pos : 0 < K
  len : ∀ x, (c x).length = K
  one : ∀ x, ∀ u ∈ c x, u.oneCell' = true
  und : P.underlying ty = some (.slice e)
  info : ∃ i, P.info? e = some i ∧ i.zero = some z ∧ i.size = K ∧ i.bytes = bytes
  hz : z.cells.size = K
  hb : bytes ≤ 1000
theorem rparts {i : Option TypeInfo} {z : Value} {s b : Nat} (h : i.map (fun i => (i.zero, i.size, i.bytes)) = some (some z, s, b)) : ∃ i0, i = some i0 ∧ i0.zero = some z ∧ i0.size = s ∧ i0.bytes = b := by
  cases i with
  | none => cases h
  | some i0 =>
    simp only [Option.map_some, Option.some.injEq, Prod.mk.injEq] at h
    exact ⟨i0, rfl, h.1, h.2.1, h.2.2⟩
theorem radd0 (g k : Nat) : (⟨g, 0, none⟩ : Addr).add k = ⟨g, k, none⟩ := by
  unfold Addr.add
  split
  · rename_i h; rw [h]
  · simp
theorem radd (g j k : Nat) : (⟨g, j, none⟩ : Addr).add k = ⟨g, j + k, none⟩ := by
  unfold Addr.add
  split
  · rename_i e; rw [e]; rfl
  · rfl
section
variable {P : Program} {α : Type} (R : Rec P α)
def Rec.row (L : List α) : List Value := L.flatMap R.c
theorem Rec.row_len (L : List α) : (R.row L).length = L.length * R.K := by
  induction L with
  | nil => simp [Rec.row]
  | cons y l ih =>
    unfold Rec.row at *
    rw [List.flatMap_cons, List.length_append, ih, R.len, List.length_cons, Nat.succ_mul, Nat.add_comm]
theorem Rec.row_app (p q : List α) : R.row (p ++ q) = R.row p ++ R.row q := by unfold Rec.row; rw [List.flatMap_append]
theorem Rec.row_one (L : List α) : ∀ u ∈ R.row L, u.oneCell' = true := by
  intro u hu
  obtain ⟨x, -, hx⟩ := List.mem_flatMap.1 hu
  exact R.one x u hx
theorem Rec.row_drop (p q : List α) (j : Nat) : (R.row (p ++ q))[p.length * R.K + j]? = (R.row q)[j]? := by
  rw [R.row_app, List.getElem?_append_right (by rw [R.row_len]; omega), R.row_len]
  congr 1
  omega
theorem Rec.row_at (L : List α) (i : Nat) (y : α) (h : L[i]? = some y) (k : Nat) (u : Value) (hu : (R.c y)[k]? = some u) : (R.row L)[i * R.K + k]? = some u := by
  obtain ⟨hi, he⟩ := List.getElem?_eq_some_iff.1 h
  have e1 : L = L.take i ++ y :: L.drop (i + 1) := by rw [← he, List.getElem_cons_drop, List.take_append_drop]
  have e2 : (L.take i).length = i := by rw [List.length_take]; omega
  have := R.row_drop (L.take i) (y :: L.drop (i + 1)) k
  rw [← e1, e2] at this
  rw [this]
  show (R.c y ++ _)[k]? = _
  rw [List.getElem?_append_left (List.getElem?_eq_some_iff.1 hu).1]
  exact hu
/-- A row of records that a call owns: it lies in a block from C on. -/
def Rg (w : World) (C : Nat) (v : Value) (L : List α) : Prop := w.ownsRow C R.e R.K v L.length (R.row L)
variable {R} {w w' : World} {C : Nat} {v : Value} {L : List α}
theorem Rg.keep (h : Rg R w C v L) (hb : ∀ g, v.ownBlock = some g → w'.heap[g]? = w.heap[g]?) : Rg R w' C v L := by
  refine ⟨h.1, ?_⟩
  rcases h.2 with h2 | ⟨g, cap, cur, h1, h2, h3, h4⟩
  · exact .inl h2
  · refine .inr ⟨g, cap, cur, h1, h2, ?_, h4⟩
    rw [hb g (by rw [h1]; rfl)]; exact h3
theorem Rg.below (h : Rg R w C v L) (hb : Below w.heap.size w w') : Rg R w' C v L := h.keep fun g hg => hb.block g (h.lt g hg).2
theorem Rg.ft {F : Nat → Prop} (h : Rg R w C v L) (k : Ft F w w') (hn : ∀ g, v.ownBlock = some g → ¬ F g) : Rg R w' C v L := h.keep fun g hg => k.block g (h.lt g hg).2 (hn g hg)
theorem Rg.mono (h : Rg R w C v L) {C' : Nat} (hb : C' ≤ C) : Rg R w C' v L := World.ownsRow.mono h hb
theorem Rg.nil (w : World) (C : Nat) : Rg R w C (.slice none 0 0) [] := World.ownsRow_nil _ _ _ _
theorem Rg.made (w : World) (cs : Array Value) (n : Nat) (hC : C ≤ w.heap.size) (hn : n ≤ 1000000) (hs : cs.size = n * R.K) : Rg R (w.alloc (.cells cs R.e)) C (.slice (some ⟨w.heap.size, 0, none⟩) 0 n) [] :=
  World.ownsRow_made w cs n hC (by unfold maxLen; omega) hs
theorem Rg.form (h : Rg R w C v L) : ∃ a cap, v = .slice a L.length cap ∧ L.length ≤ cap ∧ cap ≤ maxLen ∧ ∀ (j : Nat) (x : α), L[j]? = some x → ∃ g, a = some ⟨g, 0, none⟩ ∧ ∀ k u, (R.c x)[k]? = some u → w.cell? ⟨g, j * R.K + k, none⟩ = some u := by
  rcases h.2 with ⟨h2, h3⟩ | ⟨g, cap, cur, h1, h2, h3, h4, h5, _⟩
  · have : L = [] := List.length_eq_zero_iff.1 h3
    subst this
    exact ⟨none, 0, h2, Nat.le_refl _, by unfold maxLen; omega, fun j x hj => by simp at hj⟩
  · refine ⟨_, cap, h1, h4, h5, fun j x hj => ⟨g, rfl, fun k u hu => ?_⟩⟩
    have e1 := World.ownsRow.cells h (g := g) (by rw [h1]; rfl) _ _ (R.row_at L j x hj k u hu)
    rw [radd0] at e1
    exact e1
/-- Making an empty row with room for n. -/
theorem rg_make (R : Rec P α) (n : Nat) (hn : n ≤ 1000000) : ∃ cs : Array Value, cs.size = n * R.K ∧ ∀ w, (Instr.makeSlice R.ty (.int .i64 0) (.int .i64 (n : Int))).run P w = .ok (.slice (some ⟨w.heap.size, 0, none⟩) 0 n) (w.alloc (.cells cs R.e)) := by
  obtain ⟨i0, hi0, hz0, hz1, hz2⟩ := R.info
  refine ⟨madeCells R.z.cells (n * i0.size), by rw [size_madeCells, hz1], fun w => ?_⟩
  have hbb := R.hb
  have hm : n * R.bytes ≤ 1000000 * 1000 := Nat.mul_le_mul hn hbb
  have hr := run_make (P := P) w R.ty R.e i0 R.z R.und hi0 hz0 .i64 .i64 0 n (Int.le_refl _) (by omega) (by rw [hz2, Int.mul_comm, ← Int.natCast_mul]; have hm2 := hm; generalize n * R.bytes = mm at *; omega) (by omega)
  simp only [Int.toNat_zero, Int.toNat_natCast] at hr
  exact hr
/-- The parts of a row, as what is appended. -/
theorem rnews_pre {g cap : Nat} {pre post : List α} (h : Rg R w C (.slice (some ⟨g, 0, none⟩) (pre ++ post).length cap) (pre ++ post)) (c : Nat) :
    News w (.slice (some ⟨g, 0, none⟩) pre.length c) pre.length R.K (R.row pre) := by
  refine ⟨R.row_len pre, R.row_one pre, .inr ⟨_, c, rfl, fun j u hu => ?_⟩⟩
  refine World.ownsRow.cells h (g := g) rfl j u ?_
  rw [R.row_app, List.getElem?_append_left]
  · exact hu
  · exact (List.getElem?_eq_some_iff.1 hu).1
theorem rnews_post {g cap : Nat} {pre post : List α} (h : Rg R w C (.slice (some ⟨g, 0, none⟩) (pre ++ post).length cap) (pre ++ post)) (c : Nat) :
    News w (.slice (some ⟨g, pre.length * R.K, none⟩) post.length c) post.length R.K (R.row post) := by
  refine ⟨R.row_len post, R.row_one post, .inr ⟨_, c, rfl, fun j u hu => ?_⟩⟩
  have := World.ownsRow.cells h (g := g) rfl (pre.length * R.K + j) u (by rw [R.row_drop]; exact hu)
  rw [radd0] at this
  rw [radd]
  exact this
theorem rnews_from {g cap : Nat} {pre post : List α} (h : Rg R w C (.slice (some ⟨g, 0, none⟩) (pre ++ post).length cap) (pre ++ post)) {N : Nat} (hN : (pre ++ post).length = N) (hc : N ≤ cap) (c : Nat) :
    News w (.slice (if cap = pre.length then some ⟨g, 0, none⟩ else some ⟨g, pre.length * R.K, none⟩) (N - pre.length) c) post.length R.K (R.row post) := by
  have e : N - pre.length = post.length := by rw [← hN, List.length_append]; omega
  rw [e]
  by_cases hcp : cap = pre.length
  · have hp : post = [] := by
      apply List.length_eq_zero_iff.1
      rw [List.length_append] at hN
      omega
    subst hp
    rw [if_pos hcp]
    exact ⟨by simp [Rec.row], R.row_one [], .inr ⟨_, c, rfl, fun j u hu => by simp [Rec.row] at hu⟩⟩
  · rw [if_neg hcp]
    exact rnews_post h c
theorem rnews_nil (R : Rec P α) (w : World) : News w (.slice none 0 0) 0 R.K (R.row []) := ⟨by simp [Rec.row], R.row_one [], .inl ⟨rfl, rfl⟩⟩
theorem rnews_box (R : Rec P α) {b : Nat} {y : α} {cs : Array Value} (h : Blk w b R.e cs) (hc : cs.toList = R.c y) : News w (.slice (some ⟨b, 0, none⟩) 1 1) 1 R.K (R.row [y]) := by
  refine ⟨by rw [R.row_len]; rfl, R.row_one [y], .inr ⟨_, 1, rfl, fun j u hu => ?_⟩⟩
  rw [radd0, h.cell]
  have : R.row [y] = R.c y := by unfold Rec.row; simp
  rw [this, ← hc] at hu
  simpa using hu
theorem rown_empty (R : Rec P α) {w : World} {D b : Nat} (hD : D ≤ b) (hb : w.heap.size = b) : Rg R (w.alloc (.cells #[] R.e)) D (.slice (some ⟨b, 0, none⟩) 0 0) [] := by
  subst hb
  exact World.ownsRow_lit w #[] 0 hD (by unfold maxLen; omega) (by simp)
theorem Blk.grownR {w w' : World} {b : Nat} {t : TypeId} {cs : Array Value} {r : Option Nat} (h : Blk w b t cs) (hg : w.grownBy w' r) (hn : some b ≠ r) : Blk w' b t cs := by
  have hl := h.lt
  unfold Blk at *
  rw [hg.block b hl hn]; exact h
/-- An append in a region that draws. -/
theorem rstep_own (R : Rec P α) {ops : Array Oper} {o : Oper} {a : Act} {w : World} {K : Act → World → Prop} {Q : Exit → Act → World → Prop} {E : Prop}
    (hg : o.guard = none) (s x : Operand) (hop : o.op = .call { callee := .builtin .append, args := #[s, x], argTypes := #[R.ty, R.ty] }) {D : Nat} {w5 : World} (hD : w5.heap.size = D)
    (v : Value) (L : List α) (hs : a.eval s = v) (hown : Rg R w D v L) (M : List α) (hn : News w (a.eval x) M.length R.K (R.row M)) (hl : L.length + M.length ≤ 20000) (S : Below D w5 w)
    (hK : ∀ v' w', Rg R w' D v' (L ++ M) → Below D w5 w' → (∀ b t cs, Blk w b t cs → some b ≠ v.ownBlock → Blk w' b t cs) → K (a.put o.dst v') w') :
    if Region.wanted o (yielded ops a.tmps) = true then Oper.wp P o a w K Q else E := by
  obtain ⟨i0, hi0, hz0, hz1, hz2⟩ := R.info
  have hsz : D ≤ w.heap.size := by have := S.size; omega
  exact step_app hg s x R.ty hop D R.e i0 R.z R.K R.bytes R.und hi0 hz0 hz1 hz2 R.hz R.pos v L.length (R.row L) hs hown M.length (R.row M) hn (by omega) R.hb hsz
    fun v' w' q1 q2 => hK v' w' (by unfold Rg; rw [List.length_append, R.row_app]; exact q1) (S.grown q2 hsz fun j hj => (hown.lt j hj).1) fun b t cs h1 h2 => h1.grownR q2 h2
/-- An append where the order is kept. -/
theorem rlist_app (R : Rec P α) {ops : Array Oper} {rest : List Oper} {o : Oper} {a : Act} {w : World} {Q : Exit → Act → World → Prop} (hg : o.guard = none) (s x : Operand)
    (hop : o.op = .call { callee := .builtin .append, args := #[s, x], argTypes := #[R.ty, R.ty] }) (B : Nat) (v : Value) (L : List α) (hs : a.eval s = v) (hown : Rg R w B v L) (M : List α) (hn : News w (a.eval x) M.length R.K (R.row M))
    (h63 : L.length + M.length ≤ 1000000) (hbase : B ≤ w.heap.size)
    (hK : ∀ v' w', Rg R w' B v' (L ++ M) → w.grownBy w' v.ownBlock → wpList P ops Q rest (a.put o.dst v') w') : wpList P ops Q (o :: rest) a w := by
  obtain ⟨i0, hi0, hz0, hz1, hz2⟩ := R.info
  exact list_app hg s x R.ty hop B R.e i0 R.z R.K R.bytes R.und hi0 hz0 hz1 hz2 R.hz R.pos v L.length (R.row L) hs hown M.length (R.row M) hn h63 R.hb hbase
    fun v' w' q1 q2 => hK v' w' (by unfold Rg; rw [List.length_append, R.row_app]; exact q1) q2
end
end Go.Proofs.YtjjdkkdnlnbedaaGreat


/- Rows of records that are read: they may begin in the midst of a block. -/
namespace Go.Proofs.YtjjdkkdnlnbedaaGreat
open Go.RowKit
set_option linter.unusedVariables false

section
variable {P : Program} {α : Type} (R : Rec P α)
/-- A row that reads as L; it lies in a block from C on. -/
structure Rd (w : World) (C : Nat) (a : Option Addr) (n cap : Nat) (L : List α) : Prop where
  len : n = L.length
  le : n ≤ cap
  max : cap ≤ maxLen
  nil : a = none → cap = 0
  blk : ∀ x, a = some x → C ≤ x.block ∧ x.block < w.heap.size ∧ ∃ g o, x = ⟨g, o, none⟩
  cell : ∀ j y, L[j]? = some y → ∃ g o, a = some ⟨g, o, none⟩ ∧ ∀ k u, (R.c y)[k]? = some u → w.cell? ⟨g, o + j * R.K + k, none⟩ = some u
variable {R} {w w' : World} {C : Nat} {v : Value} {L : List α} {a : Option Addr} {n cap : Nat}
theorem Rd.keep (h : Rd R w C a n cap L) (hs : w.heap.size ≤ w'.heap.size) (hb : ∀ x, a = some x → w'.heap[x.block]? = w.heap[x.block]?) : Rd R w' C a n cap L := by
  refine ⟨h.len, h.le, h.max, h.nil, fun x e => ⟨(h.blk x e).1, Nat.lt_of_lt_of_le (h.blk x e).2.1 hs, (h.blk x e).2.2⟩, fun j y hj => ?_⟩
  obtain ⟨g, o, e, hc⟩ := h.cell j y hj
  refine ⟨g, o, e, fun k u hu => ?_⟩
  have h1 := hc k u hu
  have h2 := hb _ e
  unfold World.cell? at h1 ⊢
  simp only at h2 h1 ⊢
  rw [h2]; exact h1
theorem Rd.below (h : Rd R w C a n cap L) (hb : Below w.heap.size w w') : Rd R w' C a n cap L := h.keep hb.size fun x e => hb.block _ (h.blk x e).2.1
theorem Rd.ft {F : Nat → Prop} (h : Rd R w C a n cap L) (k : Ft F w w') (hn : ∀ x, a = some x → ¬ F x.block) : Rd R w' C a n cap L := h.keep k.size fun x e => k.block _ (h.blk x e).2.1 (hn x e)
theorem Rd.empty (w : World) (C : Nat) : Rd R w C none 0 0 [] := ⟨rfl, Nat.le_refl _, Nat.zero_le _, fun _ => rfl, (fun x e => by cases e), fun j y hj => by simp at hj⟩
theorem Rd.of (h : Rg R w C v L) : ∃ a cap, v = .slice a L.length cap ∧ Rd R w C a L.length cap L := by
  rcases h.2 with ⟨h2, h3⟩ | ⟨g, cap, cur, h1, h2, h3, h4, h5, _⟩
  · have : L = [] := List.length_eq_zero_iff.1 h3
    subst this
    exact ⟨none, 0, h2, Rd.empty w C⟩
  · refine ⟨_, cap, h1, rfl, h4, h5, (fun e => by cases e), (fun x e => by cases e; exact ⟨h2, (h.lt g (by rw [h1]; rfl)).2, g, 0, rfl⟩), fun j x hj => ⟨g, 0, rfl, fun k u hu => ?_⟩⟩
    have e1 := World.ownsRow.cells h (g := g) (by rw [h1]; rfl) _ _ (R.row_at L j x hj k u hu)
    rw [radd0] at e1
    rw [Nat.zero_add]
    exact e1
theorem Rd.tail {x : α} {g o : Nat} (h : Rd R w C (some ⟨g, o, none⟩) n cap (x :: L)) : Rd R w C (if cap = 1 then some ⟨g, o, none⟩ else some ⟨g, o + R.K, none⟩) (n - 1) (cap - 1) L := by
  have hl := h.len
  have hle := h.le
  have hmax := h.max
  simp only [List.length_cons] at hl
  obtain ⟨b1, b2, -⟩ := h.blk _ rfl
  by_cases e : cap = 1
  · rw [if_pos e]
    have hL : L = [] := List.length_eq_zero_iff.1 (by omega)
    subst hL
    exact ⟨by simp; omega, by omega, by omega, (fun q => by cases q), (fun y q => by cases q; exact ⟨b1, b2, g, o, rfl⟩), fun j y hj => by simp at hj⟩
  · rw [if_neg e]
    refine ⟨by omega, by omega, by omega, (fun q => by cases q), (fun y q => by cases q; exact ⟨b1, b2, g, _, rfl⟩), fun j y hj => ⟨g, o + R.K, rfl, fun k u hu => ?_⟩⟩
    obtain ⟨g', o', q, hc⟩ := h.cell (j + 1) y (by simpa using hj)
    cases q
    have := hc k u hu
    rw [Nat.succ_mul] at this
    rw [show o + R.K + j * R.K + k = o + (j * R.K + R.K) + k by omega]
    exact this
/-- The parts of a row, as what is appended. -/
theorem dnews_pre {pre post : List α} (h : Rd R w C a n cap (pre ++ post)) (c : Nat) (hc : a = none → c = 0) :
    News w (.slice a pre.length c) pre.length R.K (R.row pre) := by
  refine ⟨R.row_len pre, R.row_one pre, ?_⟩
  cases a with
  | none =>
    have h1 := h.nil rfl
    have h2 := h.le
    have h3 := h.len
    rw [List.length_append] at h3
    exact .inl ⟨by rw [hc rfl, show pre.length = 0 by omega], by omega⟩
  | some x =>
    obtain ⟨-, -, g, o, rfl⟩ := h.blk _ rfl
    refine .inr ⟨_, c, rfl, fun j u hu => ?_⟩
    rw [radd]
    have hj : j < pre.length * R.K := by rw [← R.row_len]; exact (List.getElem?_eq_some_iff.1 hu).1
    have hq : j / R.K < pre.length := Nat.div_lt_of_lt_mul (by rw [Nat.mul_comm]; exact hj)
    obtain ⟨y, hy⟩ : ∃ y, pre[j / R.K]? = some y := ⟨_, List.getElem?_eq_getElem hq⟩
    obtain ⟨g', o', q, hcl⟩ := h.cell (j / R.K) y (by rw [List.getElem?_append_left hq]; exact hy)
    cases q
    have hm : j % R.K < R.K := Nat.mod_lt _ R.pos
    obtain ⟨u', hu'⟩ : ∃ u', (R.c y)[j % R.K]? = some u' := ⟨_, List.getElem?_eq_getElem (by rw [R.len]; exact hm)⟩
    have h2 := R.row_at pre _ y hy _ u' hu'
    rw [Nat.mul_comm, Nat.div_add_mod] at h2
    rw [hu] at h2
    cases h2
    have := hcl _ _ hu'
    rw [show o + j / R.K * R.K + j % R.K = o + j by rw [Nat.add_assoc, Nat.mul_comm, Nat.div_add_mod]] at this
    exact this
theorem dnews_post {pre post : List α} {g o : Nat} (h : Rd R w C (some ⟨g, o, none⟩) n cap (pre ++ post)) (c : Nat) :
    News w (.slice (some ⟨g, o + pre.length * R.K, none⟩) post.length c) post.length R.K (R.row post) := by
  refine ⟨R.row_len post, R.row_one post, .inr ⟨_, c, rfl, fun j u hu => ?_⟩⟩
  rw [radd]
  have hj : j < post.length * R.K := by rw [← R.row_len]; exact (List.getElem?_eq_some_iff.1 hu).1
  have hq : j / R.K < post.length := Nat.div_lt_of_lt_mul (by rw [Nat.mul_comm]; exact hj)
  obtain ⟨y, hy⟩ : ∃ y, post[j / R.K]? = some y := ⟨_, List.getElem?_eq_getElem hq⟩
  obtain ⟨g', o', q, hcl⟩ := h.cell (pre.length + j / R.K) y (by rw [List.getElem?_append_right (Nat.le_add_right _ _), Nat.add_sub_cancel_left]; exact hy)
  cases q
  have hm : j % R.K < R.K := Nat.mod_lt _ R.pos
  obtain ⟨u', hu'⟩ : ∃ u', (R.c y)[j % R.K]? = some u' := ⟨_, List.getElem?_eq_getElem (by rw [R.len]; exact hm)⟩
  have h2 := R.row_at post _ y hy _ u' hu'
  rw [Nat.mul_comm, Nat.div_add_mod] at h2
  rw [hu] at h2
  cases h2
  have := hcl _ _ hu'
  rw [show o + (pre.length + j / R.K) * R.K + j % R.K = o + pre.length * R.K + j by
    rw [Nat.add_mul, ← Nat.add_assoc, Nat.add_assoc (o + pre.length * R.K), Nat.mul_comm (j / R.K), Nat.div_add_mod]] at this
  exact this
theorem dnews_from {pre post : List α} {g o : Nat} (h : Rd R w C (some ⟨g, o, none⟩) n cap (pre ++ post)) {N : Nat} (hN : (pre ++ post).length = N) (c : Nat) :
    News w (.slice (if cap = pre.length then some ⟨g, o, none⟩ else some ⟨g, o + pre.length * R.K, none⟩) (N - pre.length) c) post.length R.K (R.row post) := by
  have hl := h.len
  have hle := h.le
  have e : N - pre.length = post.length := by rw [← hN, List.length_append]; omega
  rw [e]
  by_cases hcp : cap = pre.length
  · have hp : post = [] := by
      apply List.length_eq_zero_iff.1
      rw [List.length_append] at hN hl
      omega
    subst hp
    rw [if_pos hcp]
    exact ⟨by simp [Rec.row], R.row_one [], .inr ⟨_, c, rfl, fun j u hu => by simp [Rec.row] at hu⟩⟩
  · rw [if_neg hcp]
    exact dnews_post h c
end
end Go.Proofs.YtjjdkkdnlnbedaaGreat


namespace Go.Proofs.YtjjdkkdnlnbedaaGreat
open Go.RowKit Kt Qu
set_option linter.unusedVariables false

def tc (t : Tmr) : List Value := [.int .i64 t.id, .int .i64 t.clock, .int .i64 t.soft, .int .i64 t.hard, .bool t.lazy]
theorem tmInfo : (Tryz.prog.info? 35).map (fun i => (i.zero, i.size, i.bytes)) = some (some (.agg #[.int .i64 0, .int .i64 0, .int .i64 0, .int .i64 0, .bool false]), 5, 40) := by kernel_rfl
/-- Rows of timers. -/
def rtm : Rec Tryz.prog Tmr where
  e := 35
  ty := 28
  K := 5
  bytes := 40
  z := .agg #[.int .i64 0, .int .i64 0, .int .i64 0, .int .i64 0, .bool false]
  c := tc
  pos := by decide
  len := fun _ => rfl
  one := by
    intro x u hu
    simp only [tc, List.mem_cons, List.not_mem_nil, or_false] at hu
    rcases hu with rfl | rfl | rfl | rfl | rfl <;> rfl
  und := Tryz.underlying28
  info := rparts tmInfo
  hz := rfl
  hb := by decide
def slen : Value → Nat
  | .slice _ l _ => l
  | _ => 0
section
variable {w : World} {a : Qa} {n : Nat} {L : List QI}
theorem qall_nil (w : World) : Calls Tryz.prog 64 #[.pointer none] w fun e w' => ∃ v, e = .returned v ∧ Rg rtm w' w.heap.size v [] ∧ Below w.heap.size w w' := by
  go_enter Tryz.func64, Tryz.ntmps64
  go_wp2
  go_ret
  exact ⟨_, rfl, Rg.nil _ _, Below.refl _ _⟩
set_option maxRecDepth 100000 in
set_option maxHeartbeats 2000000 in
theorem qall_any (h : Que w a n L) : Calls Tryz.prog 64 #[.pointer (some ⟨a.q, 0, none⟩)] w fun e w' => ∃ v, e = .returned v ∧ Rg rtm w' w.heap.size v (L.map (·.tm)) ∧ Below w.heap.size w w' := by
  obtain ⟨C, hC⟩ : ∃ b, w.heap.size = b := ⟨_, rfl⟩
  obtain ⟨N, hN⟩ : ∃ N, L.length = N := ⟨_, rfl⟩
  have hN64 : N ≤ 64 := by rw [← hN]; exact h.len
  have CL := hide (qlen_any h)
  rw [hN] at CL
  obtain ⟨cs, hcs, hmk⟩ := rg_make rtm N (by omega)
  have hmk1 : (Instr.makeSlice 28 (.int .i64 0) (.int .i64 (N : Int))).run Tryz.prog w = .ok (.slice (some ⟨C, 0, none⟩) 0 N) (w.alloc (.cells cs 35)) := by rw [← hC]; exact hmk w
  have r1 : Rg rtm (w.alloc (.cells cs 35)) C (.slice (some ⟨C, 0, none⟩) 0 N) [] := by
    have := Rg.made (R := rtm) w cs N (Nat.le_refl _) (by omega) hcs
    rw [hC] at this
    exact this
  obtain ⟨W1, hW1⟩ : ∃ W1, W1 = w.alloc (.cells cs 35) := ⟨_, rfl⟩
  rw [← hW1] at r1 hmk1
  have b1 : Below C w W1 := by rw [hW1, ← hC]; exact one_below _ _
  have h1 := h.below (hC ▸ b1)
  have c0 := h.c0
  have c0' := h1.c0
  obtain ⟨tf, tr, htf⟩ := h1.tre
  have CF := hide (tfirst a.t a.g 64 tf _ W1 tr)
  obtain ⟨p, u, ok, ehd, -⟩ := hdV_cases (L.map QI.it)
  rw [ehd] at CF
  have HHD := hide ehd
  have H1 := hide (And.intro h (And.intro r1 b1))
  have HN := hide hN
  clear h r1 b1 h1 tr htf ehd hmk hW1 hN
  rw [hC]
  go_enter Tryz.func64, Tryz.ntmps64
  go_wp2_with (first | (go_at_call 88; refine (unhide CL).mono ?_; rintro e wl ⟨rfl, hwl⟩; obtain rfl := hwl.symm) | (go_at_call 90; refine Hid.out ?_))
  refine hide ?_
  refine (unhide CF).mono ?_
  rintro e w2 ⟨rfl, hb2⟩
  obtain ⟨h, r1, b1⟩ := unhide H1
  obtain ⟨B, hB⟩ : ∃ b, w2.heap.size = b := ⟨_, rfl⟩
  have hWB : W1.heap.size ≤ B := by rw [← hB]; exact hb2.size
  have r2 := (r1.below hb2).below (one_below w2 (.cells #[.int .i64 p, .int .i64 u] 123))
  have k2 := Blk.new_at w2 123 #[.int .i64 p, .int .i64 u] hB.symm
  have b2 : Below C w (w2.alloc (.cells #[.int .i64 p, .int .i64 u] 123)) := (b1.trans (hb2.mono (by have := b1.size; omega))).trans ((one_below _ _).mono (by have := b1.size; have := hb2.size; omega))
  have hnB : ∀ g, (Value.slice (some ⟨C, 0, none⟩) 0 N).ownBlock = some g → g ≠ B := fun g hg => by have := (r1.lt g hg).2; omega
  have H2 := hide (And.intro r2 (And.intro k2 (And.intro b2 hnB)))
  have HQ := hide h
  clear h r1 b1 r2 k2 b2 hb2 H1 CF CL hnB hmk1 c0 c0' hWB
  go_wp2_with fail
  go_loopw [3, 4, 5] (fun s3 s4 s5 w' => ∃ (A R : List QI) (B : Nat) (p u : Int) (ok : Bool), s4 = .pointer (some ⟨B, 0, none⟩) ∧ s5 = .bool ok ∧ Hid (L = A ++ R ∧ hdV (R.map QI.it) = .tuple #[.agg #[.int .i64 p, .int .i64 u], .bool ok] ∧ Rg rtm w' C s3 (A.map (·.tm)) ∧ Blk w' B 123 #[.int .i64 p, .int .i64 u] ∧ Below C w w' ∧ ∀ g, s3.ownBlock = some g → g ≠ B)) (fun s3 _ _ _ => N - slen s3)
  case atStart => exact ⟨[], L, B, p, u, ok, rfl, rfl, hide ⟨rfl, unhide HHD, (unhide H2).1, (unhide H2).2.1, (unhide H2).2.2.1, (unhide H2).2.2.2⟩⟩
  case round =>
    obtain ⟨A, R, B, p, u, ok, rfl, rfl, HJ⟩ := hrel
    obtain ⟨hl, ehd, row, kB, bl, hnB⟩ := unhide HJ
    obtain ⟨ra, rcap, hf, -⟩ := row.form
    rw [List.length_map] at hf
    subst hf
    cases R with
    | nil =>
      rw [List.append_nil] at hl
      have : ok = false := by
        have : hdV [] = .tuple #[.agg #[.int .i64 p, .int .i64 u], .bool ok] := ehd
        unfold hdV at this
        simp at this
        exact this.2
      subst this
      have HF := hide (And.intro hl (And.intro row bl))
      clear hl ehd row kB bl hnB HJ H2
      go_wp2_with fail
      go_ret
      obtain ⟨hl, row, bl⟩ := unhide HF
      exact ⟨_, rfl, by rw [hl]; exact row, bl⟩
    | cons y R =>
      obtain ⟨rfl, rfl, rfl⟩ : p = (y.n : Int) ∧ u = y.tu ∧ ok = true := by
        have : hdV ((y :: R).map QI.it) = .tuple #[.agg #[.int .i64 p, .int .i64 u], .bool ok] := ehd
        rw [show hdV ((y :: R).map QI.it) = .tuple #[.agg #[.int .i64 y.n, .int .i64 y.tu], .bool true] from rfl] at this
        simp at this
        exact ⟨this.1.1.symm, this.1.2.symm, this.2⟩
      have hle : A.length + R.length + 1 = N := by rw [← unhide HN, hl]; simp only [List.length_append, List.length_cons]; omega
      have h := unhide HQ
      have hr : Que wr a n L := h.below (hC ▸ bl)
      have hyL : y ∈ L := by rw [hl]; simp
      have lk : ∀ w', Below wr.heap.size wr w' → (Instr.lookup 127 (.map (some a.mt)) (.agg #[.int .i64 y.n, .int .i64 y.tu]) false).run Tryz.prog w' = .ok (tv y.tm) w' := fun w' hb => by
        exact (hr.below hb).mt.look_some keyedH Tryz.underlying127 (zeroT w') (y.n, y.tu) (hr.keyOf hyL) (tF_mem hr.nd hyL) false
      obtain ⟨⟨i1, i2, i3, i4, i5⟩, htm⟩ : ∃ t, y.tm = t := ⟨_, rfl⟩
      rw [htm] at lk
      unfold tv at lk
      simp only at lk
      have bd : Below wr.heap.size wr wr.drew := below_drew (Below.refl _ _)
      have l0 := lk _ bd
      have c2 : wr.drew.cell? ⟨a.q, 2, none⟩ = some (.map (some a.mt)) := (hr.below bd).c2
      have q0 : wr.drew.cell? ⟨B, 0, none⟩ = some (.int .i64 y.n) := kB.cell 0
      have q1 : wr.drew.cell? ⟨B, 1, none⟩ = some (.int .i64 y.tu) := kB.cell 1
      obtain ⟨D, hD⟩ : ∃ D, wr.heap.size = D := ⟨_, rfl⟩
      have hCD : C ≤ D := by rw [← hD, ← hC]; exact bl.size
      have blD : ∀ o, Below C w (wr.alloc o).drew := fun o => below_drew (bl.alloc (by omega) o)
      have rowD : ∀ o, Rg rtm (wr.alloc o).drew C (.slice ra A.length rcap) (A.map (·.tm)) := fun o => row.below (below_drew (one_below wr o))
      have kBD : ∀ o, Blk (wr.alloc o).drew B 123 #[.int .i64 y.n, .int .i64 y.tu] := fun o => kB.below (below_drew (one_below wr o)) kB.lt
      have HK := hide (And.intro hl (And.intro rowD (And.intro kBD (And.intro blD hnB))))
      have HBX := hide (fun cs => show Blk (wr.alloc (.cells cs 35)).drew D 35 cs from Blk.new_at wr _ _ hD.symm)
      have hD2 : wr.drew.heap.size = D := hD
      obtain ⟨WD, hWD⟩ : ∃ WD, WD = wr.drew := ⟨_, rfl⟩
      have HWD := hide hWD
      have HTM := hide htm
      have HYL := hide hyL
      clear hl ehd row kB bl hnB h hr lk bd rowD kBD blD HJ H2 hWD htm hyL
      have hC1 := hCD
      generalize hyn : y.n = yn at *
      generalize hyu : y.tu = yu at *
      go_wp2_with fail
      go_region_law (first
        | (refine rstep_own rtm rfl _ _ rfl hC (.slice ra A.length rcap) (A.map (·.tm)) rfl ((unhide HK).2.1 _) [⟨i1, i2, i3, i4, i5⟩] (rnews_box rtm (unhide HBX _) rfl) (by simp; omega) ((unhide HK).2.2.2.1 _) ?_; intro v1 w1 o1 S1 K1; have hb1 := K1 _ _ _ ((unhide HK).2.2.1 _) (fun e => (unhide HK).2.2.2.2 _ e.symm rfl)))
      all_goals
        obtain ⟨hl, -, -, -, -⟩ := unhide HK
        obtain ⟨ra2, rcap2, hf2, -⟩ := o1.form
        have hlen1 : (A.map (·.tm) ++ [(⟨i1, i2, i3, i4, i5⟩ : Tmr)]).length = A.length + 1 := by simp
        rw [hlen1] at hf2
        subst hf2
        have hCB4 : C ≤ w1.heap.size := by have := S1.size; omega
        have hrow1 : ∀ g, (Value.slice ra2 (A.length + 1) rcap2).ownBlock = some g → g < w1.heap.size := fun g hg => (o1.lt g hg).2
        obtain ⟨B4, hB4⟩ : ∃ b, w1.heap.size = b := ⟨_, rfl⟩
        have d0 := hb1.cell 0
        have d1 := hb1.cell 1
        simp only [List.getElem?_toArray, List.getElem?_cons_zero, List.getElem?_cons_succ] at d0 d1
        obtain ⟨W4, hW4⟩ : ∃ W4, W4 = w1.alloc (.cells #[.int .i64 yn, .int .i64 yu] 123) := ⟨_, rfl⟩
        have b4 : Below w1.heap.size w1 W4 := by rw [hW4]; exact one_below _ _
        have k4 : Blk W4 B4 123 #[.int .i64 yn, .int .i64 yu] := by rw [hW4]; exact Blk.new_at _ _ _ hB4.symm
        have S4 : Below C w W4 := S1.trans (b4.mono (by have := S1.size; omega))
        have r4 := o1.below b4
        have h4 : Que W4 a n L := (unhide HQ).below (hC ▸ S4)
        have e0 : W4.drew.cell? ⟨a.q, 0, none⟩ = some (.pointer (some ⟨a.t, 0, none⟩)) := h4.c0
        have e1 : W4.drew.cell? ⟨B4, 0, none⟩ = some (.int .i64 yn) := k4.cell 0
        have e2 : W4.drew.cell? ⟨B4, 1, none⟩ = some (.int .i64 yu) := k4.cell 1
        obtain ⟨p2, u2, ok2, ehd2, -⟩ := hdV_cases (R.map QI.it)
        have CX := hide (show Calls Tryz.prog 91 #[.pointer (some ⟨a.t, 0, none⟩), .agg #[.int .i64 yn, .int .i64 yu]] W4.drew fun e w' => e = .returned (.tuple #[.agg #[.int .i64 p2, .int .i64 u2], .bool ok2]) ∧ Below W4.drew.heap.size W4.drew w' from by
          obtain ⟨tf4, tr4, -⟩ := h4.tre
          rw [hl, List.map_append, List.map_cons] at tr4
          have := tnext a.t a.g 64 tf4 (A.map QI.it) (R.map QI.it) (QI.it y) W4.drew (tr4.ft ((Ft.refl (fun _ => False) W4).drew) id id)
          rw [ehd2, show (QI.it y).n = yn from hyn, show (QI.it y).tu = yu from hyu] at this
          exact this)
        have H4 := hide (And.intro r4 (And.intro k4 (And.intro S4 (And.intro hl (And.intro ehd2 hrow1)))))
        have HW4 := hide hW4
        have zz0 := hkHeld (W := W4.drew) k4 0 (.int .i64 yn) rfl
        have zz1 := hkHeld (W := W4.drew) k4 1 (.int .i64 yu) rfl
        have zf0 := hkFree (W := W4.drew) k4 0
        have zf1 := hkFree (W := W4.drew) k4 1
        clear b4 k4 S4 r4 h4 ehd2 hW4 hl o1 S1 K1 hb1 hrow1 HK HBX l0 c2 q0 q1 hlen1
        go_wp2_with fail
        rw [← unhide HW4]
        go_region_with (go_at_call 91; refine (unhide CX).mono ?_; rintro e w5 ⟨rfl, hb5⟩; have y0 := zz0 w5 hb5; have y1 := zz1 w5 hb5; have y2 := zf0 w5 hb5; have y3 := zf1 w5 hb5)
        all_goals go_wp2_with fail
        all_goals (try simp only [Act.put, List.setIfInBounds_toArray, List.set_cons_zero, List.set_cons_succ, List.getElem_toArray, List.getElem_cons_succ, List.getElem_cons_zero])
        all_goals
          go_roundw
          case rel =>
            obtain ⟨r4, k4, S4, hl, ehd2, hrow1⟩ := unhide H4
            have bd4 : Below W4.heap.size W4 W4.drew := below_drew (Below.refl _ _)
            have hB4l := k4.lt
            have b5 : Below W4.heap.size W4 w5 := bd4.trans hb5
            have k5 := k4.below b5 k4.lt
            refine ⟨A ++ [y], R, B4, p2, u2, ok2, rfl, rfl, hide ⟨by rw [hl]; simp, ehd2, ?_, (k5.put 0 _).put 1 _, ?_, fun g hg => by have := hrow1 g hg; omega⟩⟩
            · rw [List.map_append, List.map_cons, List.map_nil, unhide HTM]
              refine Rg.keep (r4.below b5) fun g hg => ?_
              have hne : g ≠ B4 := by have := hrow1 g hg; omega
              rw [Below.heap_setCell _ _ _ _ (by exact hne), Below.heap_setCell _ _ _ _ (by exact hne)]
            · have hCB : C ≤ B4 := by rw [← hB4]; exact hCB4
              exact below_set2 (S4.trans (b5.mono (by omega))) hCB _ _
          case measure =>
            show N - (A.length + 1) < N - A.length; omega
end
end Go.Proofs.YtjjdkkdnlnbedaaGreat


namespace Go.Proofs.YtjjdkkdnlnbedaaGreat
open Go.RowKit Kt Qu
set_option linter.unusedVariables false

/-- What a client sees of a queue: its timers, in order. -/
def Qs (w : World) (a : Qa) (n : Nat) (R : List Tmr) : Prop := ∃ L, Que w a n L ∧ L.map (·.tm) = R
section
variable {w w' : World} {a : Qa} {n : Nat} {R : List Tmr}
theorem Que.up {L : List QI} (h : Que w a n L) (hn : n < 1000000) : Que w a (n + 1) L :=
  ⟨h.blk, h.tre.imp fun tf ht => ⟨ht.1, fun x => ⟨(ht.2 x).1, by have := (ht.2 x).2; omega⟩⟩, h.mh.mono (Nat.le_succ n), h.mt.mono (Nat.le_succ n), h.nd, fun y hy => ⟨(h.ok y hy).1, (h.ok y hy).2.1, (h.ok y hy).2.2.1, by have := (h.ok y hy).2.2.2; omega⟩, h.ap, by omega⟩
theorem Qs.up (h : Qs w a n R) (hn : n < 1000000) : Qs w a (n + 1) R := by obtain ⟨L, h1, h2⟩ := h; exact ⟨L, h1.up hn, h2⟩
theorem Qs.ft {F : Nat → Prop} (h : Qs w a n R) (ht : Ft F w w') (hn : ∀ k, a.foot k → ¬ F k) : Qs w' a n R := by obtain ⟨L, h1, h2⟩ := h; exact ⟨L, h1.ft ht hn, h2⟩
theorem Qs.below (h : Qs w a n R) (hb : Below w.heap.size w w') : Qs w' a n R := by obtain ⟨L, h1, h2⟩ := h; exact ⟨L, h1.below hb, h2⟩
theorem Qs.lts (h : Qs w a n R) : ∀ k, a.foot k → k < w.heap.size := by obtain ⟨L, h1, h2⟩ := h; exact h1.lts
theorem Qs.len (h : Qs w a n R) : R.length ≤ 64 := by obtain ⟨L, h1, rfl⟩ := h; rw [List.length_map]; exact h1.len
theorem Qs.srt (h : Qs w a n R) : SrtT R := by obtain ⟨L, h1, rfl⟩ := h; exact h1.srt
theorem Qs.ids (h : Qs w a n R) : (idsT R).Nodup := by
  obtain ⟨L, h1, rfl⟩ := h
  unfold idsT
  rw [List.map_map]
  exact h1.nd.1
theorem Qs.ok (h : Qs w a n R) : ∀ t ∈ R, okT t := by
  obtain ⟨L, h1, rfl⟩ := h
  intro t ht
  obtain ⟨y, hy, rfl⟩ := List.mem_map.1 ht
  exact (h1.ok y hy).1
theorem Qs.nb (h : Qs w a n R) : n ≤ 1000000 := by obtain ⟨L, h1, h2⟩ := h; exact h1.nb
theorem ids_map (L : List QI) : L.map (·.tm.id) = idsT (L.map (·.tm)) := by unfold idsT; rw [List.map_map]; rfl
theorem snew (w : World) : Calls Tryz.prog 113 #[] w fun e w' => ∃ a : Qa, e = .returned (.pointer (some ⟨a.q, 0, none⟩)) ∧ Qs w' a 0 [] ∧ Below w.heap.size w w' ∧ ∀ k, a.foot k → w.heap.size ≤ k := by
  refine (qnew_any w).mono ?_
  rintro e w' ⟨a, rfl, h, b, f⟩
  exact ⟨a, rfl, ⟨[], h, rfl⟩, b, f⟩
/-- What Add answers, and what the row is then. -/
def addE (R : List Tmr) (t : Tmr) : Int := if t.hard < t.soft then 2 else if t.id ∈ idsT R then 9 else if R.length = 64 then 3 else 0
def addR (R : List Tmr) (t : Tmr) : List Tmr := if addE R t = 0 then insT t R else R
theorem sadd (h : Qs w a n R) (hn : n < 1000000) (t : Tmr) (ht : okT t) : Calls Tryz.prog 93 #[.pointer (some ⟨a.q, 0, none⟩), tv t] w fun e w' => e = .returned (.int .i64 (addE R t)) ∧ Qs w' a (n + 1) (addR R t) ∧ Ft a.foot w w' := by
  unfold addR addE
  by_cases h1 : t.hard < t.soft
  · rw [if_pos h1, if_neg (by decide)]
    refine (qadd_inval a.q w t h1).mono ?_
    rintro e w' ⟨rfl, hb⟩
    exact ⟨rfl, (h.below hb).up hn, Ft.of_below _ hb⟩
  · rw [if_neg h1]
    obtain ⟨L, hq, rfl⟩ := h
    by_cases h2 : t.id ∈ idsT (L.map (·.tm))
    · rw [if_pos h2, if_neg (by decide)]
      refine (qadd_busy hq t h1 (by rw [ids_map]; exact h2)).mono ?_
      rintro e w' ⟨rfl, hb⟩
      exact ⟨rfl, ⟨L, (hq.below hb).up hn, rfl⟩, Ft.of_below _ hb⟩
    · rw [if_neg h2]
      by_cases h3 : (L.map (·.tm)).length = 64
      · rw [if_pos h3, if_neg (by decide)]
        refine (qadd_full hq t h1 ht.1 (by rw [ids_map]; exact h2) (by rw [List.length_map] at h3; exact h3)).mono ?_
        rintro e w' ⟨rfl, hb⟩
        exact ⟨rfl, ⟨L, (hq.below hb).up hn, rfl⟩, Ft.of_below _ hb⟩
      · rw [if_neg h3, if_pos rfl]
        have hl := hq.len
        rw [List.length_map] at h3
        refine (qadd_ok hq hn t h1 ht (by rw [ids_map]; exact h2) (by omega)).mono ?_
        rintro e w' ⟨rfl, ⟨L', h4, h5⟩, f⟩
        exact ⟨rfl, ⟨L', h4, h5⟩, f⟩
theorem sfirst (h : Qs w a n R) : Calls Tryz.prog 102 #[.pointer (some ⟨a.q, 0, none⟩)] w fun e w' => e = .returned (fstV R) ∧ Below w.heap.size w w' := by
  obtain ⟨L, hq, rfl⟩ := h
  exact qfirst_any hq
theorem slen_any (h : Qs w a n R) : Calls Tryz.prog 88 #[.pointer (some ⟨a.q, 0, none⟩)] w fun e w' => e = .returned (.int .i64 R.length) ∧ w' = w := by
  obtain ⟨L, hq, rfl⟩ := h
  rw [List.length_map]
  exact qlen_any hq
theorem sall (h : Qs w a n R) : Calls Tryz.prog 64 #[.pointer (some ⟨a.q, 0, none⟩)] w fun e w' => ∃ v, e = .returned v ∧ Rg rtm w' w.heap.size v R ∧ Below w.heap.size w w' := by
  obtain ⟨L, hq, rfl⟩ := h
  exact qall_any hq
theorem shas (h : Qs w a n R) (id : Int) (hid : isI id) : Calls Tryz.prog 107 #[.pointer (some ⟨a.q, 0, none⟩), .int .i64 id] w fun e w' => e = .returned (.bool (decide (id ∈ idsT R))) ∧ Below w.heap.size w w' := by
  obtain ⟨L, hq, rfl⟩ := h
  by_cases hm : id ∈ idsT (L.map (·.tm))
  · rw [decide_eq_true hm]
    rw [← ids_map] at hm
    obtain ⟨y, hy, rfl⟩ := List.mem_map.1 hm
    exact qhas_in hq y hy
  · rw [decide_eq_false hm]
    rw [← ids_map] at hm
    exact qhas_out hq id hid hm
theorem sdrop_none (h : Qs w a n R) (id : Int) (hid : isI id) (hm : id ∉ idsT R) : Calls Tryz.prog 97 #[.pointer (some ⟨a.q, 0, none⟩), .int .i64 id] w fun e w' => e = .returned (.tuple #[tv t0, .bool false]) ∧ Below w.heap.size w w' := by
  obtain ⟨L, hq, rfl⟩ := h
  rw [← ids_map] at hm
  exact qdrop_none hq id hid hm
theorem sdrop_ok {A B : List Tmr} {t : Tmr} (h : Qs w a n (A ++ t :: B)) : Calls Tryz.prog 97 #[.pointer (some ⟨a.q, 0, none⟩), .int .i64 t.id] w fun e w' => e = .returned (.tuple #[tv t, .bool true]) ∧ Qs w' a n (A ++ B) ∧ Ft a.foot w w' := by
  obtain ⟨L, hq, hL⟩ := h
  obtain ⟨X, Y', rfl, rfl, h2⟩ := List.map_eq_append_iff.1 hL
  obtain ⟨y, Y, rfl, rfl, rfl⟩ := List.map_eq_cons_iff.1 h2
  refine (qdrop_ok X Y y hq).mono ?_
  rintro e w' ⟨rfl, h3, f⟩
  exact ⟨rfl, ⟨_, h3, by rw [List.map_append]⟩, f⟩
theorem sdue_no (h : Qs w a n R) (now : Int) (hd : ∀ y S, R = y :: S → ¬ dueT now y) : Calls Tryz.prog 123 #[.pointer (some ⟨a.q, 0, none⟩), .int .i64 now] w fun e w' => e = .returned (.tuple #[tv t0, .bool false]) ∧ Below w.heap.size w w' := by
  obtain ⟨L, hq, rfl⟩ := h
  exact qdue_no hq now fun y S e => hd y.tm (S.map (·.tm)) (by rw [e]; rfl)
theorem sdue_ok {t : Tmr} (h : Qs w a n (t :: R)) (now : Int) (hd : dueT now t) : Calls Tryz.prog 123 #[.pointer (some ⟨a.q, 0, none⟩), .int .i64 now] w fun e w' => e = .returned (.tuple #[tv t, .bool true]) ∧ Qs w' a n R ∧ Ft a.foot w w' := by
  obtain ⟨L, hq, hL⟩ := h
  obtain ⟨y, Y, rfl, rfl, rfl⟩ := List.map_eq_cons_iff.1 hL
  refine (qdue_ok y Y hq now hd).mono ?_
  rintro e w' ⟨rfl, h3, f⟩
  exact ⟨rfl, ⟨_, h3, rfl⟩, f⟩
end
/-- A queue that a law made: all that it touched lies from C on. -/
structure Qv (C : Nat) (w0 w : World) (a : Qa) (n : Nat) (R : List Tmr) : Prop where
  q : Qs w a n R
  low : Below C w0 w
  cs : C ≤ w.heap.size
  foot : ∀ k, a.foot k → C ≤ k
section
variable {C : Nat} {w0 w w' : World} {a : Qa} {n n' : Nat} {R R' : List Tmr}
theorem Qv.step (h : Qv C w0 w a n R) (h2 : Qs w' a n' R') (f : Ft a.foot w w') : Qv C w0 w' a n' R' := ⟨h2, f.low h.low h.foot h.cs, Nat.le_trans h.cs f.size, h.foot⟩
theorem Qv.below (h : Qv C w0 w a n R) (hb : Below w.heap.size w w') : Qv C w0 w' a n R := h.step (h.q.below hb) (Ft.of_below _ hb)
theorem Qv.new (hb : Below C w0 w) (hC : C ≤ w.heap.size) (hq : Qs w' a n R) (h1 : Below w.heap.size w w') (hf : ∀ k, a.foot k → w.heap.size ≤ k) : Qv C w0 w' a n R := ⟨hq, hb.trans (h1.mono hC), Nat.le_trans hC h1.size, fun k hk => Nat.le_trans hC (hf k hk)⟩
end
end Go.Proofs.YtjjdkkdnlnbedaaGreat

