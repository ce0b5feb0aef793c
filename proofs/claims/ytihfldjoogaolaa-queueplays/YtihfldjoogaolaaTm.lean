import Derived.Test.YtihfldjoogaolaaRows
import Derived.Test.YtihfldjoogaolaaBlk
import Derived.Test.YtihfldjoogaolaaScp
import Derived.Test.YtihfldjoogaolaaTpMath
import Derived.WalkKit
import Derived.WalkLawsBesides
import Derived.RegionTactic
import Derived.ChangeAlike
import Derived.Deep.QuietTactic
import Derived.BigQuiet
namespace Go.Proofs.Ytihfldjoogaolaa
open Go.RowKit

theorem hide {p : Prop} (h : p) : Hid p := h
theorem unhide {p : Prop} (h : Hid p) : p := h
theorem ret_int {a b : Int} (h : a = b) : Ending.returned (.int .i64 a) = .returned (.int .i64 b) := by rw [h]

/-- The cells of a place. -/
def fld (x : Nd) : Nat → Value
  | 0 => .int .i64 x.time
  | 1 => .int .i64 x.seq
  | 2 => .int .i64 x.turn
  | 3 => .bool x.filled
  | 4 => .bool x.red
  | 5 => .int .i64 x.up
  | 6 => .int .i64 (x.dn false)
  | _ => .int .i64 (x.dn true)

/-- Block G holds the places 0 to P. -/
structure Holds (w : World) (G P : Nat) (nd : Nat → Nd) : Prop where
  cell : ∀ i, i ≤ P → ∀ k, k < 8 → w.cell? ⟨G, i * 8 + k, none⟩ = some (fld (nd i) k)
  free : ∀ j, w.frozen? ⟨G, j, none⟩ = false

/-- The tree's box and its places. -/
structure Own (w : World) (T G P : Nat) (st : St) : Prop where
  hP : P ≤ 4096
  ne : T ≠ G
  box : Blk w T 63 #[.slice (some ⟨G, 0, none⟩) (P + 1) (P + 1), .int .i64 st.root, .int .i64 st.free, .int .i64 st.count]
  nod : Holds w G P st.nd
  lt : G < w.heap.size

/-- Just the blocks T and G may have changed. -/
structure Touch (T G : Nat) (w w' : World) : Prop where
  os : w'.os = w.os
  tape : w'.tape = w.tape
  output : w'.output = w.output
  size : w.heap.size ≤ w'.heap.size
  block : ∀ k, k < w.heap.size → k ≠ T → k ≠ G → w'.heap[k]? = w.heap[k]?

theorem Touch.refl (T G : Nat) (w : World) : Touch T G w w := ⟨rfl, rfl, rfl, Nat.le_refl _, fun _ _ _ _ => rfl⟩
theorem Touch.trans {T G : Nat} {a b c : World} (h : Touch T G a b) (k : Touch T G b c) : Touch T G a c :=
  ⟨k.os.trans h.os, k.tape.trans h.tape, k.output.trans h.output, Nat.le_trans h.size k.size, fun i hi h1 h2 => (k.block i (Nat.lt_of_lt_of_le hi h.size) h1 h2).trans (h.block i hi h1 h2)⟩
theorem Touch.of_below {T G : Nat} {a b : World} (h : Below a.heap.size a b) : Touch T G a b := ⟨h.os, h.tape, h.output, h.size, fun i hi _ _ => h.block i hi⟩
theorem Touch.drew {T G m : Nat} {a b : World} (h : Touch T G a b) : Touch T G a (b.drewN m) := ⟨h.os, h.tape, h.output, h.size, h.block⟩
theorem Touch.setT {T G : Nat} {a b : World} (h : Touch T G a b) (j : Nat) (v : Value) : Touch T G a (b.setCell ⟨T, j, none⟩ v) :=
  ⟨h.os, h.tape, h.output, by simpa using h.size, fun i hi h1 h2 => (Below.heap_setCell b ⟨T, j, none⟩ v i h1).trans (h.block i hi h1 h2)⟩
theorem Touch.setG {T G : Nat} {a b : World} (h : Touch T G a b) (j : Nat) (v : Value) : Touch T G a (b.setCell ⟨G, j, none⟩ v) :=
  ⟨h.os, h.tape, h.output, by simpa using h.size, fun i hi h1 h2 => (Below.heap_setCell b ⟨G, j, none⟩ v i h2).trans (h.block i hi h1 h2)⟩

theorem Own.drew {w : World} {T G P : Nat} {st : St} (h : Own w T G P st) (m : Nat) : Own (w.drewN m) T G P st := ⟨h.hP, h.ne, h.box, ⟨h.nod.cell, h.nod.free⟩, h.lt⟩
theorem Own.below {w w' : World} {T G P : Nat} {st : St} (h : Own w T G P st) (hb : Below w.heap.size w w') : Own w' T G P st :=
  ⟨h.hP, h.ne, h.box.below hb h.box.lt, ⟨fun i hi k hk => (hb.cell (p := ⟨G, i * 8 + k, none⟩) h.lt).trans (h.nod.cell i hi k hk), fun j => (hb.frozen (p := ⟨G, j, none⟩) h.lt).trans (h.nod.free j)⟩, Nat.lt_of_lt_of_le h.lt hb.size⟩
theorem Own.slice {w : World} {T G P : Nat} {st : St} (h : Own w T G P st) : w.cell? ⟨T, 0, none⟩ = some (.slice (some ⟨G, 0, none⟩) (P + 1) (P + 1)) := h.box.cell 0
theorem Own.root {w : World} {T G P : Nat} {st : St} (h : Own w T G P st) : w.cell? ⟨T, 1, none⟩ = some (.int .i64 st.root) := h.box.cell 1
theorem Own.free {w : World} {T G P : Nat} {st : St} (h : Own w T G P st) : w.cell? ⟨T, 2, none⟩ = some (.int .i64 st.free) := h.box.cell 2
theorem Own.count {w : World} {T G P : Nat} {st : St} (h : Own w T G P st) : w.cell? ⟨T, 3, none⟩ = some (.int .i64 st.count) := h.box.cell 3
theorem Own.ofree {w : World} {T G P : Nat} {st : St} (h : Own w T G P st) (j : Nat) : w.frozen? ⟨T, j, none⟩ = false := h.box.free j

theorem Own.at {w : World} {T G P : Nat} {st : St} (h : Own w T G P st) (i : Nat) (hi : i ≤ P) :
    w.cell? ⟨G, i * 8, none⟩ = some (.int .i64 (st.nd i).time) ∧ w.cell? ⟨G, i * 8 + 1, none⟩ = some (.int .i64 (st.nd i).seq) ∧ w.cell? ⟨G, i * 8 + 2, none⟩ = some (.int .i64 (st.nd i).turn) ∧
    w.cell? ⟨G, i * 8 + 3, none⟩ = some (.bool (st.nd i).filled) ∧ w.cell? ⟨G, i * 8 + 4, none⟩ = some (.bool (st.nd i).red) ∧ w.cell? ⟨G, i * 8 + 5, none⟩ = some (.int .i64 (st.nd i).up) ∧
    w.cell? ⟨G, i * 8 + 6, none⟩ = some (.int .i64 ((st.nd i).dn false)) ∧ w.cell? ⟨G, i * 8 + 7, none⟩ = some (.int .i64 ((st.nd i).dn true)) :=
  ⟨h.nod.cell i hi 0 (by omega), h.nod.cell i hi 1 (by omega), h.nod.cell i hi 2 (by omega), h.nod.cell i hi 3 (by omega), h.nod.cell i hi 4 (by omega), h.nod.cell i hi 5 (by omega), h.nod.cell i hi 6 (by omega), h.nod.cell i hi 7 (by omega)⟩

/-- A cell of a place is written. -/
theorem Holds.put {w : World} {G P : Nat} {nd : Nat → Nd} (h : Holds w G P nd) (i k : Nat) (hi : i ≤ P) (hk : k < 8) (x : Nd) (hx : ∀ j, j < 8 → j ≠ k → fld x j = fld (nd i) j) :
    Holds (w.setCell ⟨G, i * 8 + k, none⟩ (fld x k)) G P (setAt nd i x) := by
  refine ⟨fun a ha b hb => ?_, fun j => by rw [World.frozen?_setCell]; exact h.free j⟩
  unfold setAt
  by_cases e : a = i ∧ b = k
  · obtain ⟨rfl, rfl⟩ := e
    rw [if_pos rfl, World.cell?_setCell_same _ _ _ (h.cell a ha b hb)]
  · have ne : (⟨G, i * 8 + k, none⟩ : Addr) ≠ ⟨G, a * 8 + b, none⟩ := by
      intro q
      simp only [Addr.mk.injEq, true_and, and_true] at q
      exact e ⟨by omega, by omega⟩
    rw [World.cell?_setCell_other _ _ _ _ ne, h.cell a ha b hb]
    by_cases e2 : a = i
    · subst e2
      rw [if_pos rfl, hx b hb (fun q => e ⟨rfl, q⟩)]
    · rw [if_neg e2]
theorem Own.putUp {w : World} {T G P : Nat} {st : St} (h : Own w T G P st) (i u : Nat) (hi : i ≤ P) : Own (w.setCell ⟨G, i * 8 + 5, none⟩ (.int .i64 u)) T G P { st with nd := setUp st.nd i u } :=
  ⟨h.hP, h.ne, h.box.other (fun e => h.ne e.symm) _ _, h.nod.put i 5 hi (by omega) { st.nd i with up := u } (by
    intro j hj hk
    rcases (show j = 0 ∨ j = 1 ∨ j = 2 ∨ j = 3 ∨ j = 4 ∨ j = 6 ∨ j = 7 by omega) with rfl | rfl | rfl | rfl | rfl | rfl | rfl <;> rfl), by simpa using h.lt⟩
theorem Own.putDn0 {w : World} {T G P : Nat} {st : St} (h : Own w T G P st) (i c : Nat) (hi : i ≤ P) : Own (w.setCell ⟨G, i * 8 + 6, none⟩ (.int .i64 c)) T G P { st with nd := setDn st.nd i false c } :=
  ⟨h.hP, h.ne, h.box.other (fun e => h.ne e.symm) _ _, h.nod.put i 6 hi (by omega) { st.nd i with dn := fun t => if t = false then c else (st.nd i).dn t } (by
    intro j hj hk
    rcases (show j = 0 ∨ j = 1 ∨ j = 2 ∨ j = 3 ∨ j = 4 ∨ j = 5 ∨ j = 7 by omega) with rfl | rfl | rfl | rfl | rfl | rfl | rfl <;> rfl), by simpa using h.lt⟩
theorem Own.putDn1 {w : World} {T G P : Nat} {st : St} (h : Own w T G P st) (i c : Nat) (hi : i ≤ P) : Own (w.setCell ⟨G, i * 8 + 7, none⟩ (.int .i64 c)) T G P { st with nd := setDn st.nd i true c } :=
  ⟨h.hP, h.ne, h.box.other (fun e => h.ne e.symm) _ _, h.nod.put i 7 hi (by omega) { st.nd i with dn := fun t => if t = true then c else (st.nd i).dn t } (by
    intro j hj hk
    rcases (show j = 0 ∨ j = 1 ∨ j = 2 ∨ j = 3 ∨ j = 4 ∨ j = 5 ∨ j = 6 by omega) with rfl | rfl | rfl | rfl | rfl | rfl | rfl <;> rfl), by simpa using h.lt⟩
theorem Own.putRed {w : World} {T G P : Nat} {st : St} (h : Own w T G P st) (i : Nat) (r : Bool) (hi : i ≤ P) : Own (w.setCell ⟨G, i * 8 + 4, none⟩ (.bool r)) T G P { st with nd := setRed st.nd i r } :=
  ⟨h.hP, h.ne, h.box.other (fun e => h.ne e.symm) _ _, h.nod.put i 4 hi (by omega) { st.nd i with red := r } (by
    intro j hj hk
    rcases (show j = 0 ∨ j = 1 ∨ j = 2 ∨ j = 3 ∨ j = 5 ∨ j = 6 ∨ j = 7 by omega) with rfl | rfl | rfl | rfl | rfl | rfl | rfl <;> rfl), by simpa using h.lt⟩
theorem Own.keepG {w : World} {T G P : Nat} {st : St} (h : Own w T G P st) (j : Nat) (v : Value) : Holds (w.setCell ⟨T, j, none⟩ v) G P st.nd :=
  ⟨fun i hi k hk => by rw [World.cell?_setCell_other _ _ _ _ (by intro q; simp only [Addr.mk.injEq] at q; exact h.ne q.1)]; exact h.nod.cell i hi k hk, fun j => by rw [World.frozen?_setCell]; exact h.nod.free j⟩
theorem Own.putRoot {w : World} {T G P : Nat} {st : St} (h : Own w T G P st) (n : Nat) : Own (w.setCell ⟨T, 1, none⟩ (.int .i64 n)) T G P { st with root := n } :=
  ⟨h.hP, h.ne, h.box.put 1 _, h.keepG _ _, by simpa using h.lt⟩
theorem Own.putFree {w : World} {T G P : Nat} {st : St} (h : Own w T G P st) (n : Nat) : Own (w.setCell ⟨T, 2, none⟩ (.int .i64 n)) T G P { st with free := n } :=
  ⟨h.hP, h.ne, h.box.put 2 _, h.keepG _ _, by simpa using h.lt⟩
theorem Own.putCount {w : World} {T G P : Nat} {st : St} (h : Own w T G P st) (n : Nat) : Own (w.setCell ⟨T, 3, none⟩ (.int .i64 n)) T G P { st with count := n } :=
  ⟨h.hP, h.ne, h.box.put 3 _, h.keepG _ _, by simpa using h.lt⟩

theorem side_any (T G P : Nat) (st : St) (w : World) (h : Own w T G P st) (n : Nat) (hn : n ≤ P) (hu : (st.nd n).up ≤ P) :
    Calls Try.prog 35 #[.pointer (some ⟨T, 0, none⟩), .int .i64 n] w fun e w' => e = .returned (.int .i64 (sd (sideOf st n))) ∧ ∃ m, w' = w.drewN m := by
  have hP := h.hP
  have c0 := h.slice
  have c1 := (h.at n hn).2.2.2.2.2.1
  have c2 := (h.at (st.nd n).up hu).2.2.2.2.2.2.2
  unfold sideOf
  obtain ⟨u, hu'⟩ : ∃ u, (st.nd n).up = u := ⟨_, rfl⟩
  rw [hu'] at c1 c2 hu
  rw [hu']
  obtain ⟨d, hd⟩ : ∃ d, (st.nd u).dn true = d := ⟨_, rfl⟩
  rw [hd] at c2
  rw [hd]
  clear hu' hd h
  by_cases hs : d = n
  · subst hs
    simp only [decide_true]
    go_enter Try.func35, Try.ntmps35
    go_wp2
    go_quiet (fail)
    go_wp2
    go_ret
    exact ⟨rfl, _, rfl⟩
  · simp only [hs, decide_false]
    go_enter Try.func35, Try.ntmps35
    go_wp2
    go_quiet (fail)
    go_wp2
    go_ret
    exact ⟨rfl, _, rfl⟩

set_option maxHeartbeats 1000000 in
theorem join_any (T G P : Nat) (st : St) (w : World) (h : Own w T G P st) (up : Nat) (s : Bool) (n : Nat) (hu : up ≤ P) (hn : n ≤ P) :
    Calls Try.prog 34 #[.pointer (some ⟨T, 0, none⟩), .int .i64 up, .int .i64 (sd s), .int .i64 n] w fun e w' => e = .returned (.tuple #[]) ∧ Own w' T G P (st.join up s n) ∧ Touch T G w w' := by
  have hP := h.hP
  have hTG := h.ne
  have c0 := h.slice
  have c1 := h.root
  have f1 := h.ofree 1
  obtain ⟨cu0, cu1⟩ := (h.at up hu).2.2.2.2.2.2
  have cn := (h.at n hn).2.2.2.2.2.1
  have fr := h.nod.free
  cases s
  · rw [show sd false = 0 from rfl]
    by_cases hu0 : up = 0
    · by_cases hn0 : n = 0
      · go_enter Try.func34, Try.ntmps34
        go_wp2
        go_end0
        subst hu0; subst hn0
        exact ⟨rfl, h.putRoot 0, (Touch.refl _ _ _).setT _ _⟩
      · go_enter Try.func34, Try.ntmps34
        go_wp2
        go_end0
        subst hu0
        unfold St.join St.join1
        rw [if_neg hn0]
        exact ⟨rfl, (h.putRoot n).putUp n 0 hn, ((Touch.refl _ _ _).setT _ _).setG _ _⟩
    · by_cases hn0 : n = 0
      · go_enter Try.func34, Try.ntmps34
        go_wp2
        go_end0
        subst hn0
        unfold St.join St.join1
        rw [if_pos rfl, if_neg hu0]
        exact ⟨rfl, h.putDn0 up 0 hu, (Touch.refl _ _ _).setG _ _⟩
      · go_enter Try.func34, Try.ntmps34
        go_wp2
        go_end0
        unfold St.join St.join1
        rw [if_neg hn0, if_neg hu0]
        exact ⟨rfl, (h.putDn0 up n hu).putUp n up hn, ((Touch.refl _ _ _).setG _ _).setG _ _⟩
  · rw [show sd true = 1 from rfl]
    by_cases hu0 : up = 0
    · by_cases hn0 : n = 0
      · go_enter Try.func34, Try.ntmps34
        go_wp2
        go_end0
        subst hu0; subst hn0
        exact ⟨rfl, h.putRoot 0, (Touch.refl _ _ _).setT _ _⟩
      · go_enter Try.func34, Try.ntmps34
        go_wp2
        go_end0
        subst hu0
        unfold St.join St.join1
        rw [if_neg hn0]
        exact ⟨rfl, (h.putRoot n).putUp n 0 hn, ((Touch.refl _ _ _).setT _ _).setG _ _⟩
    · by_cases hn0 : n = 0
      · go_enter Try.func34, Try.ntmps34
        go_wp2
        go_end0
        subst hn0
        unfold St.join St.join1
        rw [if_pos rfl, if_neg hu0]
        exact ⟨rfl, h.putDn1 up 0 hu, (Touch.refl _ _ _).setG _ _⟩
      · go_enter Try.func34, Try.ntmps34
        go_wp2
        go_end0
        unfold St.join St.join1
        rw [if_neg hn0, if_neg hu0]
        exact ⟨rfl, (h.putDn1 up n hu).putUp n up hn, ((Touch.refl _ _ _).setG _ _).setG _ _⟩
end Go.Proofs.Ytihfldjoogaolaa
