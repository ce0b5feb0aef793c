import Derived.Test.YtihfldjoogaolaaGm
namespace Go.Proofs.Ytihfldjoogaolaa
open Go.RowKit

/-- Of what was there just blocks of F may have changed. -/
structure Ft (F : Nat → Prop) (w w' : World) : Prop where
  os : w'.os = w.os
  tape : w'.tape = w.tape
  output : w'.output = w.output
  size : w.heap.size ≤ w'.heap.size
  block : ∀ k, k < w.heap.size → ¬ F k → w'.heap[k]? = w.heap[k]?
section
variable {F F' : Nat → Prop} {a b c : World}
theorem Ft.refl (F : Nat → Prop) (w : World) : Ft F w w := ⟨rfl, rfl, rfl, Nat.le_refl _, fun _ _ _ => rfl⟩
theorem Ft.trans (h : Ft F a b) (k : Ft F b c) : Ft F a c :=
  ⟨k.os.trans h.os, k.tape.trans h.tape, k.output.trans h.output, Nat.le_trans h.size k.size, fun i hi h1 => (k.block i (Nat.lt_of_lt_of_le hi h.size) h1).trans (h.block i hi h1)⟩
theorem Ft.mono (h : Ft F a b) (hF : ∀ k, F k → F' k) : Ft F' a b := ⟨h.os, h.tape, h.output, h.size, fun k hk hn => h.block k hk (fun x => hn (hF k x))⟩
theorem Ft.of_below (F : Nat → Prop) (h : Below a.heap.size a b) : Ft F a b := ⟨h.os, h.tape, h.output, h.size, fun i hi _ => h.block i hi⟩
theorem Ft.drew (h : Ft F a b) : Ft F a b.drew := ⟨h.os, h.tape, h.output, h.size, h.block⟩
theorem Ft.drewN (h : Ft F a b) (m : Nat) : Ft F a (b.drewN m) := ⟨h.os, h.tape, h.output, h.size, h.block⟩
theorem Ft.alloc (h : Ft F a b) (o : Obj) : Ft F a (b.alloc o) := h.trans (Ft.of_below F ((Below.refl _ _).alloc (Nat.le_refl _) o))
theorem Ft.set (h : Ft F a b) {k : Nat} (hk : F k ∨ a.heap.size ≤ k) (j : Nat) (v : Value) : Ft F a (b.setCell ⟨k, j, none⟩ v) :=
  ⟨h.os, h.tape, h.output, by simpa using h.size, fun i hi h1 => (Below.heap_setCell b ⟨k, j, none⟩ v i (fun e => by
    have e' : i = k := e
    rcases hk with hk | hk
    · exact h1 (e' ▸ hk)
    · omega)).trans (h.block i hi h1)⟩
theorem Ft.grown (h : Ft F a b) {row : Option Nat} (hg : b.grownBy c row) (hr : ∀ g, row = some g → F g ∨ a.heap.size ≤ g) : Ft F a c :=
  ⟨hg.os.trans h.os, hg.tape.trans h.tape, hg.output.trans h.output, Nat.le_trans h.size hg.size, fun i hi h1 => (hg.block i (Nat.lt_of_lt_of_le hi h.size) (fun e => by
    rcases hr i e.symm with h2 | h2
    · exact h1 h2
    · omega)).trans (h.block i hi h1)⟩
theorem Blk.ft {g : Nat} {t : TypeId} {cs : Array Value} (h : Blk a g t cs) (ht : Ft F a b) (hn : ¬ F g) : Blk b g t cs := by
  have hl := h.lt
  unfold Blk at *
  rw [ht.block g hl hn]; exact h
theorem Ft.cell (h : Ft F a b) {x : Addr} {v : Value} (hc : a.cell? x = some v) (hn : ¬ F x.block) : b.cell? x = some v := by
  have hl := World.block_lt_of_cell? a x hc
  have := h.block x.block hl hn
  unfold World.cell? at hc ⊢
  rw [this]; exact hc
theorem Ft.low {B : Nat} {w : World} (hb : Below B w a) (h : Ft F a b) (hg : ∀ k, F k → B ≤ k) (hs : B ≤ a.heap.size) : Below B w b :=
  ⟨h.os.trans hb.os, h.tape.trans hb.tape, h.output.trans hb.output, Nat.le_trans hb.size h.size, fun i hi => (h.block i (by omega) (fun hf => by have := hg i hf; omega)).trans (hb.block i hi)⟩
theorem GMap.ft {α β : Type} {P : Program} {k : TypeId} {mk : α → Value} {val : β → Value} {g n : Nat} {f : α → Option β} {sz : Nat} (h : GMap P k mk val a g n f sz) (ht : Ft F a b) (hn : ¬ F g) : GMap P k mk val b g n f sz := h.same (ht.block g h.lt hn)
theorem below_drew {B : Nat} {w w' : World} (h : Below B w w') : Below B w w'.drew := ⟨h.os, h.tape, h.output, h.size, h.block⟩
end
end Go.Proofs.Ytihfldjoogaolaa
