import Derived.Test.YtpkadbjgkoijiaaTc2
import Derived.Deep.Onto
namespace Go.Proofs.Ytpkadbjgkoijiaa
open Go.RowKit

theorem Tre.same {w w' : World} {T G P : Nat} {tf : Nat → Int} {L : List It} (h : Tre w T G P tf L) (hs : w.heap.size ≤ w'.heap.size) (hT : w'.heap[T]? = w.heap[T]?) (hG : w'.heap[G]? = w.heap[G]?) : Tre w' T G P tf L := by
  obtain ⟨st, t, fl, o, i, e, f⟩ := h
  refine ⟨st, t, fl, ⟨o.hP, o.ne, ?_, ⟨?_, ?_⟩, Nat.lt_of_lt_of_le o.lt hs⟩, i, e, f⟩
  · have := o.box
    unfold Blk at this ⊢
    rw [hT]; exact this
  · intro p hp k hk
    rw [World.cell?_of_block (a := ⟨G, p * 8 + k, none⟩) hG]; exact o.nod.cell p hp k hk
  · intro j
    rw [World.frozen?_of_block (a := ⟨G, j, none⟩) hG]; exact o.nod.free j
theorem Tre.grown {w w' : World} {T G P : Nat} {tf : Nat → Int} {L : List It} {row : Option Nat} (h : Tre w T G P tf L) (hg : w.grownBy w' row) (hT : some T ≠ row) (hG : some G ≠ row) : Tre w' T G P tf L :=
  h.same hg.size (hg.block T h.lts.1 hT) (hg.block G h.lts.2.1 hG)
theorem Blk.grown {w w' : World} {g : Nat} {t : TypeId} {cs : Array Value} {row : Option Nat} (h : Blk w g t cs) (hg : w.grownBy w' row) (hn : some g ≠ row) : Blk w' g t cs := by
  have hl := h.lt
  unfold Blk at h ⊢
  rw [hg.block g hl hn]; exact h
theorem row_keep {w w' : World} {C : Nat} {e : TypeId} {size : Nat} {v : Value} {n : Nat} {xs : List Value} (h : w.ownsRow C e size v n xs) (hb : ∀ g, C ≤ g → g < w.heap.size → w'.heap[g]? = w.heap[g]?) : w'.ownsRow C e size v n xs := by
  refine ⟨h.1, ?_⟩
  rcases h.2 with h2 | ⟨g, cap, cur, h1, h2, h3, h4⟩
  · exact .inl h2
  · refine .inr ⟨g, cap, cur, h1, h2, ?_, h4⟩
    have hl : g < w.heap.size := (h.lt g (by rw [h1]; rfl)).2
    rw [hb g h2 hl]; exact h3
/-- The handles that were given, one by one. -/
def hrow : Nat → List Value
  | 0 => []
  | c + 1 => hrow c ++ [.int .i64 1, .int .i64 ((c : Int) + 1)]
theorem hrow_len : ∀ c, (hrow c).length = c * 2
  | 0 => rfl
  | c + 1 => by rw [hrow, List.length_append, hrow_len c]; simp; omega
theorem hrow_at (j : Nat) : ∀ c, j < c → (hrow c)[j * 2]? = some (.int .i64 1) ∧ (hrow c)[j * 2 + 1]? = some (.int .i64 ((j : Int) + 1))
  | 0, h => by omega
  | c + 1, h => by
    rw [hrow]
    have hl := hrow_len c
    by_cases e : j = c
    · subst e
      rw [List.getElem?_append_right (by omega), List.getElem?_append_right (by omega), hl, show j * 2 - j * 2 = 0 by omega, show j * 2 + 1 - j * 2 = 1 by omega]
      exact ⟨rfl, rfl⟩
    · obtain ⟨h1, h2⟩ := hrow_at j c (by omega)
      rw [List.getElem?_append_left (by omega), List.getElem?_append_left (by omega)]
      exact ⟨h1, h2⟩
theorem add0 (g k : Nat) : (⟨g, 0, none⟩ : Addr).add k = ⟨g, k, none⟩ := by
  unfold Addr.add
  split
  · rename_i h; rw [h]
  · simp
/-- What TreeHandles keeps: the tree, the row, the two keys. -/
structure HS (w0 : World) (B C T G : Nat) (w : World) (tf : Nat → Int) (L : List It) (v : Value) (c : Nat) (p1 p2 q1 q2 : Int) : Prop where
  tr : Tre w T G 1 tf L
  row : w.ownsRow C 27 2 v c (hrow c)
  k : Blk w B 38 #[.int .i64 p1, .int .i64 p2]
  m : Blk w (B + 1) 38 #[.int .i64 q1, .int .i64 q2]
  bl : Below B w0 w
  cz : C ≤ w.heap.size
  bt : B + 1 < T ∧ B + 1 < G ∧ T < C ∧ G < C
section
variable {w0 w w' : World} {B C T G c : Nat} {tf tf' : Nat → Int} {L L' : List It} {v : Value} {p1 p2 q1 q2 : Int}
theorem HS.below (h : HS w0 B C T G w tf L v c p1 p2 q1 q2) (hb : Below w.heap.size w w') : HS w0 B C T G w' tf L v c p1 p2 q1 q2 :=
  ⟨h.tr.below hb, row_keep h.row (fun g _ hl => hb.block g hl), h.k.below hb h.k.lt, h.m.below hb h.m.lt, h.bl.trans (hb.mono (Nat.le_of_lt h.k.lt)), Nat.le_trans h.cz hb.size, h.bt⟩
theorem HS.touch (h : HS w0 B C T G w tf L v c p1 p2 q1 q2) (tr' : Tre w' T G 1 tf' L') (tt : Touch T G w w') : HS w0 B C T G w' tf' L' v c p1 p2 q1 q2 := by
  obtain ⟨b1, b2, b3, b4⟩ := h.bt
  exact ⟨tr', row_keep h.row (fun g hc hl => tt.block g hl (by omega) (by omega)), h.k.touch tt (by omega) (by omega), h.m.touch tt (by omega) (by omega), Touch.low h.bl tt (by omega) (by omega) (Nat.le_of_lt h.k.lt), Nat.le_trans h.cz tt.size, h.bt⟩
theorem HS.grown (h : HS w0 B C T G w tf L v c p1 p2 q1 q2) {v' : Value} {c' : Nat} (hg : w.grownBy w' v.ownBlock) (hr : w'.ownsRow C 27 2 v' c' (hrow c')) : HS w0 B C T G w' tf L v' c' p1 p2 q1 q2 := by
  obtain ⟨b1, b2, b3, b4⟩ := h.bt
  have hne : ∀ j, j < C → some j ≠ v.ownBlock := fun j hj e => by have := (h.row.lt j e.symm).1; omega
  exact ⟨h.tr.grown hg (hne T b3) (hne G b4), hr, h.k.grown hg (hne B (by omega)), h.m.grown hg (hne _ (by omega)), h.bl.grown hg (Nat.le_of_lt h.k.lt) (fun j hj => by have := (h.row.lt j hj).1; omega), Nat.le_trans h.cz hg.size, h.bt⟩
theorem HS.form (h : HS w0 B C T G w tf L v c p1 p2 q1 q2) : ∃ a cap, v = .slice a c cap ∧ ∀ j, j < c → ∃ g, a = some ⟨g, 0, none⟩ ∧ w.cell? ⟨g, j * 2, none⟩ = some (.int .i64 1) ∧ w.cell? ⟨g, j * 2 + 1, none⟩ = some (.int .i64 ((j : Int) + 1)) := by
  rcases h.row.2 with ⟨rfl, rfl⟩ | ⟨g, cap, cur, rfl, _, _, _⟩
  · exact ⟨none, 0, rfl, fun j hj => by omega⟩
  · refine ⟨_, cap, rfl, fun j hj => ⟨g, rfl, ?_⟩⟩
    obtain ⟨h1, h2⟩ := hrow_at j c hj
    have e1 := h.row.cells (g := g) rfl _ _ h1
    have e2 := h.row.cells (g := g) rfl _ _ h2
    rw [add0] at e1 e2
    exact ⟨e1, e2⟩
theorem HS.swap (h : HS w0 B C T G w tf L v c p1 p2 q1 q2) : HS w0 B C T G ((((w.setCell ⟨B, 0, none⟩ (.int .i64 q1)).setCell ⟨B, 1, none⟩ (.int .i64 q2)).setCell ⟨B + 1, 0, none⟩ (.int .i64 p1)).setCell ⟨B + 1, 1, none⟩ (.int .i64 p2)) tf L v c q1 q2 p1 p2 := by
  obtain ⟨b1, b2, b3, b4⟩ := h.bt
  refine ⟨(((h.tr.set (by omega) (by omega) _ _).set (by omega) (by omega) _ _).set (by omega) (by omega) _ _).set (by omega) (by omega) _ _, ?_, ?_, ?_, ?_, by simpa using h.cz, h.bt⟩
  · refine row_keep h.row (fun g hc hl => ?_)
    rw [Below.heap_setCell _ _ _ _ (by simp; omega), Below.heap_setCell _ _ _ _ (by simp; omega), Below.heap_setCell _ _ _ _ (by simp; omega), Below.heap_setCell _ _ _ _ (by simp; omega)]
  · exact (((h.k.put _ _).put _ _).other (by omega) _ _).other (by omega) _ _
  · exact ((h.m.other (by omega) _ _).other (by omega) _ _).put _ _ |>.put _ _
  · exact (((h.bl.setCell (by simp) _).setCell (by simp) _).setCell (by simp) _).setCell (by simp) _
end
end Go.Proofs.Ytpkadbjgkoijiaa
