import Derived.Test.YtkglaklkbodjkaaBlk
namespace Go.Proofs.Ytkglaklkbodjkaa
open Go.RowKit

/-- Of what was there just the block g may have changed. -/
structure Tch (g : Nat) (w w' : World) : Prop where
  os : w'.os = w.os
  tape : w'.tape = w.tape
  output : w'.output = w.output
  size : w.heap.size ≤ w'.heap.size
  block : ∀ k, k < w.heap.size → k ≠ g → w'.heap[k]? = w.heap[k]?

section
variable {g : Nat} {a b c : World}
theorem Tch.refl (g : Nat) (w : World) : Tch g w w := ⟨rfl, rfl, rfl, Nat.le_refl _, fun _ _ _ => rfl⟩
theorem Tch.trans (h : Tch g a b) (k : Tch g b c) : Tch g a c :=
  ⟨k.os.trans h.os, k.tape.trans h.tape, k.output.trans h.output, Nat.le_trans h.size k.size, fun i hi h1 => (k.block i (Nat.lt_of_lt_of_le hi h.size) h1).trans (h.block i hi h1)⟩
theorem Tch.of_below (h : Below a.heap.size a b) : Tch g a b := ⟨h.os, h.tape, h.output, h.size, fun i hi _ => h.block i hi⟩
theorem Tch.drew (h : Tch g a b) (m : Nat) : Tch g a (b.drewN m) := ⟨h.os, h.tape, h.output, h.size, h.block⟩
theorem Tch.set (h : Tch g a b) (j : Nat) (v : Value) : Tch g a (b.setCell ⟨g, j, none⟩ v) :=
  ⟨h.os, h.tape, h.output, by simpa using h.size, fun i hi h1 => (Below.heap_setCell b ⟨g, j, none⟩ v i h1).trans (h.block i hi h1)⟩
theorem Blk.tch {g2 : Nat} {t : TypeId} {cs : Array Value} (h : Blk a g2 t cs) (ht : Tch g a b) (hn : g2 ≠ g) : Blk b g2 t cs := by
  have hl := h.lt
  unfold Blk at *
  rw [ht.block g2 hl hn]; exact h
theorem Tch.low {B : Nat} {w : World} (hb : Below B w a) (h : Tch g a b) (hg : B ≤ g) (hs : B ≤ a.heap.size) : Below B w b :=
  ⟨h.os.trans hb.os, h.tape.trans hb.tape, h.output.trans hb.output, Nat.le_trans hb.size h.size, fun i hi => (h.block i (by omega) (by omega)).trans (hb.block i hi)⟩
theorem Blk.drew {w : World} {g m : Nat} {t : TypeId} {cs : Array Value} (h : Blk w g t cs) : Blk (w.drewN m) g t cs := h
end
end Go.Proofs.Ytkglaklkbodjkaa
