import Derived.Test.YtkglaklkbodjkaaWh3
import Derived.Deep.AppendLies
namespace Go.Proofs.Ytkglaklkbodjkaa
open Go.RowKit Wh

/-- One place of a row of values, or of rows, is new. -/
def at1 {α : Type} (s : Nat → α) (j : Nat) (v : α) : Nat → α := fun i => if i = j then v else s i
theorem at1_same {α : Type} (s : Nat → α) (j : Nat) (v : α) : at1 s j v j = v := if_pos rfl
theorem at1_other {α : Type} (s : Nat → α) {i j : Nat} (v : α) (h : i ≠ j) : at1 s j v i = s i := if_neg h
/-- The blocks that are a wheel's own. -/
def Foot (H Mb : Nat) (sv : Nat → Value) (g : Nat) : Prop := g = H ∨ g = Mb ∨ ∃ j, j < 64 ∧ (sv j).ownBlock = some g
/-- Only blocks of F changed; what is in F' was in F, or is new. -/
structure Fr (w w' : World) (F F' : Nat → Prop) : Prop where
  os : w'.os = w.os
  tape : w'.tape = w.tape
  output : w'.output = w.output
  size : w.heap.size ≤ w'.heap.size
  block : ∀ g, g < w.heap.size → ¬ F g → w'.heap[g]? = w.heap[g]?
  foot : ∀ g, F' g → F g ∨ w.heap.size ≤ g
theorem Fr.refl (w : World) (F : Nat → Prop) : Fr w w F F := ⟨rfl, rfl, rfl, Nat.le_refl _, fun _ _ _ => rfl, fun _ h => .inl h⟩
theorem Fr.trans {w w1 w2 : World} {F F1 F2 : Nat → Prop} (h : Fr w w1 F F1) (k : Fr w1 w2 F1 F2) : Fr w w2 F F2 := by
  refine ⟨k.os.trans h.os, k.tape.trans h.tape, k.output.trans h.output, Nat.le_trans h.size k.size, fun g hg hF => ?_, fun g hg => ?_⟩
  · have h1 : ¬ F1 g := fun h1 => by
      rcases h.foot g h1 with h2 | h2
      · exact hF h2
      · omega
    rw [k.block g (Nat.lt_of_lt_of_le hg h.size) h1, h.block g hg hF]
  · rcases k.foot g hg with h1 | h1
    · exact h.foot g h1
    · exact .inr (Nat.le_trans h.size h1)
theorem Fr.of_below {w w' : World} (F : Nat → Prop) (h : Below w.heap.size w w') : Fr w w' F F := ⟨h.os, h.tape, h.output, h.size, fun g hg _ => h.block g hg, fun _ h => .inl h⟩
theorem Fr.drewN (w : World) (F : Nat → Prop) (m : Nat) : Fr w (w.drewN m) F F := Fr.of_below F (below_drewN w m)
section
variable {w w1 : World} {B H Mb now n : Nat} {f : Int → Option Int} {sz : Nat} {sv : Nat → Value} {sl : Nat → List Int}
theorem Whl.H_not (h : Whl w B H Mb now n f sz sv sl) (j : Nat) (hj : j < 64) : some H ≠ (sv j).ownBlock := fun e => by
  have := ((h.rows j hj).lt H e.symm).1
  have := h.lo.1
  omega
theorem Whl.Mb_not (h : Whl w B H Mb now n f sz sv sl) (j : Nat) (hj : j < 64) : some Mb ≠ (sv j).ownBlock := fun e => by
  have := ((h.rows j hj).lt Mb e.symm).1
  have := h.lo.2.1
  omega
/-- A row of a slot grew, or is another one: what is stored then. -/
theorem Whl.relay (h : Whl w B H Mb now n f sz sv sl) (j : Nat) (hj : j < 64) (hg : w.grownBy w1 (sv j).ownBlock) {v : Value} {l : List Int} (hv : Ir w1 B v l)
    (hat : ∀ g, v.ownBlock = some g → (sv j).ownBlock = some g ∨ w.heap.size ≤ g) :
    Whl (w1.setCell ⟨H, 2 + j, none⟩ v) B H Mb now n f sz (at1 sv j v) (at1 sl j l) ∧ Fr w (w1.setCell ⟨H, 2 + j, none⟩ v) (Foot H Mb sv) (Foot H Mb (at1 sv j v)) := by
  have hHm := h.lo.2.2
  refine ⟨⟨?_, ?_, fun i hi => ?_, ?_, h.lo⟩, ⟨?_, ?_, ?_, ?_, ?_, ?_⟩⟩
  · have hb : Blk w1 H 77 (wc (now : Int) Mb sv) := by
      unfold Blk
      rw [hg.block H h.blk.lt (h.H_not j hj)]; exact h.blk
    have := hb.put (2 + j) v
    rw [wc_put _ _ _ j hj] at this
    exact this
  · exact (h.mp.grown hg (h.Mb_not j hj)).set hHm _ _
  · have hset : ∀ {u : Value} {k : List Int}, Ir w1 B u k → Ir (w1.setCell ⟨H, 2 + j, none⟩ v) B u k := fun hu => hu.keep fun g hg1 _ => Below.heap_setCell w1 ⟨H, 2 + j, none⟩ v g (by have := h.lo.1; show g ≠ H; omega)
    by_cases e : i = j
    · subst e
      rw [at1_same, at1_same]
      exact hset hv
    · rw [at1_other _ _ e, at1_other _ _ e]
      refine hset (World.ownsRow.kept (h.rows i hi) hg ?_)
      cases ho : (sv i).ownBlock with
      | none => exact .inl rfl
      | some a => exact .inr (fun q => h.ap i j a hi hj e ho q.symm)
  · intro i k a hi hk hne ha hb
    have key : ∀ i, i < 64 → i ≠ j → v.ownBlock = some a → (sv i).ownBlock = some a → False := fun i hi hij h1 h2 => by
      rcases hat a h1 with h3 | h3
      · exact h.ap i j a hi hj hij h2 h3
      · have := ((h.rows i hi).lt a h2).2
        omega
    by_cases e : i = j
    · subst e
      rw [at1_same] at ha
      rw [at1_other _ _ (Ne.symm hne)] at hb
      exact key k hk (Ne.symm hne) ha hb
    · rw [at1_other _ _ e] at ha
      by_cases e2 : k = j
      · subst e2
        rw [at1_same] at hb
        exact key i hi e hb ha
      · rw [at1_other _ _ e2] at hb
        exact h.ap i k a hi hk hne ha hb
  · exact hg.os
  · exact hg.tape
  · exact hg.output
  · simpa [World.setCell] using hg.size
  · intro g hgl hF
    rw [Below.heap_setCell w1 ⟨H, 2 + j, none⟩ v g (fun e => hF (.inl e))]
    exact hg.block g hgl (fun e => hF (.inr (.inr ⟨j, hj, e.symm⟩)))
  · rintro g (rfl | rfl | ⟨i, hi, ho⟩)
    · exact .inl (.inl rfl)
    · exact .inl (.inr (.inl rfl))
    · by_cases e : i = j
      · subst e
        rw [at1_same] at ho
        rcases hat g ho with h3 | h3
        · exact .inl (.inr (.inr ⟨i, hi, h3⟩))
        · exact .inr h3
      · rw [at1_other _ _ e] at ho
        exact .inl (.inr (.inr ⟨i, hi, ho⟩))
end
end Go.Proofs.Ytkglaklkbodjkaa
