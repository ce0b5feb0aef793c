import Derived.Test.YtjjdkkdnlnbedaaGreatRows
import Derived.Test.YtjjdkkdnlnbedaaGreatTreeA
import Derived.Test.YtjjdkkdnlnbedaaGreatTreeM
import Derived.WalkKit
import Derived.WalkLawsBesides
import Derived.RegionTactic
import Derived.ChangeAlike
import Derived.Deep.QuietTactic
import Derived.BigQuiet
namespace Go.Proofs.YtjjdkkdnlnbedaaGreat
open Go.RowKit

theorem hide {p : Prop} (h : p) : Hid p := h
theorem unhide {p : Prop} (h : Hid p) : p := h
theorem ret_int {k : IntKind} {a b : Int} (h : a = b) : Ending.returned (.int k a) = .returned (.int k b) := by rw [h]

/-- The cells of a place. -/
def fld (x : Nd) : Nat → Value
  | 0 => .int .i64 x.time
  | 1 => .int .i64 x.seq
  | 2 => .int .i64 x.turn
  | 3 => .bool x.filled
  | 4 => .bool x.red
  | 5 => .int .i64 x.up
  | 6 => .int .i64 (x.dn false)
  | _ => .int .i64 (x.dn true)

/-- Block G holds the places 0 to P. -/
structure Holds (w : World) (G P : Nat) (nd : Nat → Nd) : Prop where
  cell : ∀ i, i ≤ P → ∀ k, k < 8 → w.cell? ⟨G, i * 8 + k, none⟩ = some (fld (nd i) k)
  free : ∀ j, w.frozen? ⟨G, j, none⟩ = false

/-- The tree's box and its places. -/
structure Own (w : World) (T G P : Nat) (st : St) : Prop where
  hP : P ≤ 4096
  ne : T ≠ G
  box : Blk w T 141 #[.slice (some ⟨G, 0, none⟩) (P + 1) (P + 1), .int .i64 st.root, .int .i64 st.free, .int .i64 st.count]
  nod : Holds w G P st.nd
  lt : G < w.heap.size

/-- Just the blocks T and G may have changed. -/
structure Touch (T G : Nat) (w w' : World) : Prop where
  os : w'.os = w.os
  tape : w'.tape = w.tape
  output : w'.output = w.output
  size : w.heap.size ≤ w'.heap.size
  block : ∀ k, k < w.heap.size → k ≠ T → k ≠ G → w'.heap[k]? = w.heap[k]?

theorem Touch.refl (T G : Nat) (w : World) : Touch T G w w := ⟨rfl, rfl, rfl, Nat.le_refl _, fun _ _ _ _ => rfl⟩
theorem Touch.trans {T G : Nat} {a b c : World} (h : Touch T G a b) (k : Touch T G b c) : Touch T G a c :=
  ⟨k.os.trans h.os, k.tape.trans h.tape, k.output.trans h.output, Nat.le_trans h.size k.size, fun i hi h1 h2 => (k.block i (Nat.lt_of_lt_of_le hi h.size) h1 h2).trans (h.block i hi h1 h2)⟩
theorem Touch.of_below {T G : Nat} {a b : World} (h : Below a.heap.size a b) : Touch T G a b := ⟨h.os, h.tape, h.output, h.size, fun i hi _ _ => h.block i hi⟩
theorem Touch.drew {T G m : Nat} {a b : World} (h : Touch T G a b) : Touch T G a (b.drewN m) := ⟨h.os, h.tape, h.output, h.size, h.block⟩
theorem Touch.setT {T G : Nat} {a b : World} (h : Touch T G a b) (j : Nat) (v : Value) : Touch T G a (b.setCell ⟨T, j, none⟩ v) :=
  ⟨h.os, h.tape, h.output, by simpa using h.size, fun i hi h1 h2 => (Below.heap_setCell b ⟨T, j, none⟩ v i h1).trans (h.block i hi h1 h2)⟩
theorem Touch.setG {T G : Nat} {a b : World} (h : Touch T G a b) (j : Nat) (v : Value) : Touch T G a (b.setCell ⟨G, j, none⟩ v) :=
  ⟨h.os, h.tape, h.output, by simpa using h.size, fun i hi h1 h2 => (Below.heap_setCell b ⟨G, j, none⟩ v i h2).trans (h.block i hi h1 h2)⟩

theorem Own.drew {w : World} {T G P : Nat} {st : St} (h : Own w T G P st) (m : Nat) : Own (w.drewN m) T G P st := ⟨h.hP, h.ne, h.box, ⟨h.nod.cell, h.nod.free⟩, h.lt⟩
theorem Own.below {w w' : World} {T G P : Nat} {st : St} (h : Own w T G P st) (hb : Below w.heap.size w w') : Own w' T G P st :=
  ⟨h.hP, h.ne, h.box.below hb h.box.lt, ⟨fun i hi k hk => (hb.cell (p := ⟨G, i * 8 + k, none⟩) h.lt).trans (h.nod.cell i hi k hk), fun j => (hb.frozen (p := ⟨G, j, none⟩) h.lt).trans (h.nod.free j)⟩, Nat.lt_of_lt_of_le h.lt hb.size⟩
theorem Own.slice {w : World} {T G P : Nat} {st : St} (h : Own w T G P st) : w.cell? ⟨T, 0, none⟩ = some (.slice (some ⟨G, 0, none⟩) (P + 1) (P + 1)) := h.box.cell 0
theorem Own.root {w : World} {T G P : Nat} {st : St} (h : Own w T G P st) : w.cell? ⟨T, 1, none⟩ = some (.int .i64 st.root) := h.box.cell 1
theorem Own.free {w : World} {T G P : Nat} {st : St} (h : Own w T G P st) : w.cell? ⟨T, 2, none⟩ = some (.int .i64 st.free) := h.box.cell 2
theorem Own.count {w : World} {T G P : Nat} {st : St} (h : Own w T G P st) : w.cell? ⟨T, 3, none⟩ = some (.int .i64 st.count) := h.box.cell 3
theorem Own.ofree {w : World} {T G P : Nat} {st : St} (h : Own w T G P st) (j : Nat) : w.frozen? ⟨T, j, none⟩ = false := h.box.free j

theorem Own.at {w : World} {T G P : Nat} {st : St} (h : Own w T G P st) (i : Nat) (hi : i ≤ P) :
    w.cell? ⟨G, i * 8, none⟩ = some (.int .i64 (st.nd i).time) ∧ w.cell? ⟨G, i * 8 + 1, none⟩ = some (.int .i64 (st.nd i).seq) ∧ w.cell? ⟨G, i * 8 + 2, none⟩ = some (.int .i64 (st.nd i).turn) ∧
    w.cell? ⟨G, i * 8 + 3, none⟩ = some (.bool (st.nd i).filled) ∧ w.cell? ⟨G, i * 8 + 4, none⟩ = some (.bool (st.nd i).red) ∧ w.cell? ⟨G, i * 8 + 5, none⟩ = some (.int .i64 (st.nd i).up) ∧
    w.cell? ⟨G, i * 8 + 6, none⟩ = some (.int .i64 ((st.nd i).dn false)) ∧ w.cell? ⟨G, i * 8 + 7, none⟩ = some (.int .i64 ((st.nd i).dn true)) :=
  ⟨h.nod.cell i hi 0 (by omega), h.nod.cell i hi 1 (by omega), h.nod.cell i hi 2 (by omega), h.nod.cell i hi 3 (by omega), h.nod.cell i hi 4 (by omega), h.nod.cell i hi 5 (by omega), h.nod.cell i hi 6 (by omega), h.nod.cell i hi 7 (by omega)⟩

/-- A cell of a place is written. -/
theorem Holds.put {w : World} {G P : Nat} {nd : Nat → Nd} (h : Holds w G P nd) (i k : Nat) (hi : i ≤ P) (hk : k < 8) (x : Nd) (hx : ∀ j, j < 8 → j ≠ k → fld x j = fld (nd i) j) :
    Holds (w.setCell ⟨G, i * 8 + k, none⟩ (fld x k)) G P (setAt nd i x) := by
  refine ⟨fun a ha b hb => ?_, fun j => by rw [World.frozen?_setCell]; exact h.free j⟩
  unfold setAt
  by_cases e : a = i ∧ b = k
  · obtain ⟨rfl, rfl⟩ := e
    rw [if_pos rfl, World.cell?_setCell_same _ _ _ (h.cell a ha b hb)]
  · have ne : (⟨G, i * 8 + k, none⟩ : Addr) ≠ ⟨G, a * 8 + b, none⟩ := by
      intro q
      simp only [Addr.mk.injEq, true_and, and_true] at q
      exact e ⟨by omega, by omega⟩
    rw [World.cell?_setCell_other _ _ _ _ ne, h.cell a ha b hb]
    by_cases e2 : a = i
    · subst e2
      rw [if_pos rfl, hx b hb (fun q => e ⟨rfl, q⟩)]
    · rw [if_neg e2]
theorem Own.putUp {w : World} {T G P : Nat} {st : St} (h : Own w T G P st) (i u : Nat) (hi : i ≤ P) : Own (w.setCell ⟨G, i * 8 + 5, none⟩ (.int .i64 u)) T G P { st with nd := setUp st.nd i u } :=
  ⟨h.hP, h.ne, h.box.other (fun e => h.ne e.symm) _ _, h.nod.put i 5 hi (by omega) { st.nd i with up := u } (by
    intro j hj hk
    rcases (show j = 0 ∨ j = 1 ∨ j = 2 ∨ j = 3 ∨ j = 4 ∨ j = 6 ∨ j = 7 by omega) with rfl | rfl | rfl | rfl | rfl | rfl | rfl <;> rfl), by simpa using h.lt⟩
theorem Own.putDn0 {w : World} {T G P : Nat} {st : St} (h : Own w T G P st) (i c : Nat) (hi : i ≤ P) : Own (w.setCell ⟨G, i * 8 + 6, none⟩ (.int .i64 c)) T G P { st with nd := setDn st.nd i false c } :=
  ⟨h.hP, h.ne, h.box.other (fun e => h.ne e.symm) _ _, h.nod.put i 6 hi (by omega) { st.nd i with dn := fun t => if t = false then c else (st.nd i).dn t } (by
    intro j hj hk
    rcases (show j = 0 ∨ j = 1 ∨ j = 2 ∨ j = 3 ∨ j = 4 ∨ j = 5 ∨ j = 7 by omega) with rfl | rfl | rfl | rfl | rfl | rfl | rfl <;> rfl), by simpa using h.lt⟩
theorem Own.putDn1 {w : World} {T G P : Nat} {st : St} (h : Own w T G P st) (i c : Nat) (hi : i ≤ P) : Own (w.setCell ⟨G, i * 8 + 7, none⟩ (.int .i64 c)) T G P { st with nd := setDn st.nd i true c } :=
  ⟨h.hP, h.ne, h.box.other (fun e => h.ne e.symm) _ _, h.nod.put i 7 hi (by omega) { st.nd i with dn := fun t => if t = true then c else (st.nd i).dn t } (by
    intro j hj hk
    rcases (show j = 0 ∨ j = 1 ∨ j = 2 ∨ j = 3 ∨ j = 4 ∨ j = 5 ∨ j = 6 by omega) with rfl | rfl | rfl | rfl | rfl | rfl | rfl <;> rfl), by simpa using h.lt⟩
theorem Own.putRed {w : World} {T G P : Nat} {st : St} (h : Own w T G P st) (i : Nat) (r : Bool) (hi : i ≤ P) : Own (w.setCell ⟨G, i * 8 + 4, none⟩ (.bool r)) T G P { st with nd := setRed st.nd i r } :=
  ⟨h.hP, h.ne, h.box.other (fun e => h.ne e.symm) _ _, h.nod.put i 4 hi (by omega) { st.nd i with red := r } (by
    intro j hj hk
    rcases (show j = 0 ∨ j = 1 ∨ j = 2 ∨ j = 3 ∨ j = 5 ∨ j = 6 ∨ j = 7 by omega) with rfl | rfl | rfl | rfl | rfl | rfl | rfl <;> rfl), by simpa using h.lt⟩
theorem Own.keepG {w : World} {T G P : Nat} {st : St} (h : Own w T G P st) (j : Nat) (v : Value) : Holds (w.setCell ⟨T, j, none⟩ v) G P st.nd :=
  ⟨fun i hi k hk => by rw [World.cell?_setCell_other _ _ _ _ (by intro q; simp only [Addr.mk.injEq] at q; exact h.ne q.1)]; exact h.nod.cell i hi k hk, fun j => by rw [World.frozen?_setCell]; exact h.nod.free j⟩
theorem Own.putRoot {w : World} {T G P : Nat} {st : St} (h : Own w T G P st) (n : Nat) : Own (w.setCell ⟨T, 1, none⟩ (.int .i64 n)) T G P { st with root := n } :=
  ⟨h.hP, h.ne, h.box.put 1 _, h.keepG _ _, by simpa using h.lt⟩
theorem Own.putFree {w : World} {T G P : Nat} {st : St} (h : Own w T G P st) (n : Nat) : Own (w.setCell ⟨T, 2, none⟩ (.int .i64 n)) T G P { st with free := n } :=
  ⟨h.hP, h.ne, h.box.put 2 _, h.keepG _ _, by simpa using h.lt⟩
theorem Own.putCount {w : World} {T G P : Nat} {st : St} (h : Own w T G P st) (n : Nat) : Own (w.setCell ⟨T, 3, none⟩ (.int .i64 n)) T G P { st with count := n } :=
  ⟨h.hP, h.ne, h.box.put 3 _, h.keepG _ _, by simpa using h.lt⟩

theorem side_any (T G P : Nat) (st : St) (w : World) (h : Own w T G P st) (n : Nat) (hn : n ≤ P) (hu : (st.nd n).up ≤ P) :
    Calls Tryz.prog 124 #[.pointer (some ⟨T, 0, none⟩), .int .i64 n] w fun e w' => e = .returned (.int .i64 (sd (sideOf st n))) ∧ ∃ m, w' = w.drewN m := by
  have hP := h.hP
  have c0 := h.slice
  have c1 := (h.at n hn).2.2.2.2.2.1
  have c2 := (h.at (st.nd n).up hu).2.2.2.2.2.2.2
  unfold sideOf
  obtain ⟨u, hu'⟩ : ∃ u, (st.nd n).up = u := ⟨_, rfl⟩
  rw [hu'] at c1 c2 hu
  rw [hu']
  obtain ⟨d, hd⟩ : ∃ d, (st.nd u).dn true = d := ⟨_, rfl⟩
  rw [hd] at c2
  rw [hd]
  clear hu' hd h
  by_cases hs : d = n
  · subst hs
    simp only [decide_true]
    go_enter Tryz.func124, Tryz.ntmps124
    go_wp2
    go_quiet (fail)
    go_wp2
    go_ret
    exact ⟨rfl, _, rfl⟩
  · simp only [hs, decide_false]
    go_enter Tryz.func124, Tryz.ntmps124
    go_wp2
    go_quiet (fail)
    go_wp2
    go_ret
    exact ⟨rfl, _, rfl⟩

set_option maxHeartbeats 1000000 in
theorem join_any (T G P : Nat) (st : St) (w : World) (h : Own w T G P st) (up : Nat) (s : Bool) (n : Nat) (hu : up ≤ P) (hn : n ≤ P) :
    Calls Tryz.prog 133 #[.pointer (some ⟨T, 0, none⟩), .int .i64 up, .int .i64 (sd s), .int .i64 n] w fun e w' => e = .returned (.tuple #[]) ∧ Own w' T G P (st.join up s n) ∧ Touch T G w w' := by
  have hP := h.hP
  have hTG := h.ne
  have c0 := h.slice
  have c1 := h.root
  have f1 := h.ofree 1
  obtain ⟨cu0, cu1⟩ := (h.at up hu).2.2.2.2.2.2
  have cn := (h.at n hn).2.2.2.2.2.1
  have fr := h.nod.free
  cases s
  · rw [show sd false = 0 from rfl]
    by_cases hu0 : up = 0
    · by_cases hn0 : n = 0
      · go_enter Tryz.func133, Tryz.ntmps133
        go_wp2
        go_end0
        subst hu0; subst hn0
        exact ⟨rfl, h.putRoot 0, (Touch.refl _ _ _).setT _ _⟩
      · go_enter Tryz.func133, Tryz.ntmps133
        go_wp2
        go_end0
        subst hu0
        unfold St.join St.join1
        rw [if_neg hn0]
        exact ⟨rfl, (h.putRoot n).putUp n 0 hn, ((Touch.refl _ _ _).setT _ _).setG _ _⟩
    · by_cases hn0 : n = 0
      · go_enter Tryz.func133, Tryz.ntmps133
        go_wp2
        go_end0
        subst hn0
        unfold St.join St.join1
        rw [if_pos rfl, if_neg hu0]
        exact ⟨rfl, h.putDn0 up 0 hu, (Touch.refl _ _ _).setG _ _⟩
      · go_enter Tryz.func133, Tryz.ntmps133
        go_wp2
        go_end0
        unfold St.join St.join1
        rw [if_neg hn0, if_neg hu0]
        exact ⟨rfl, (h.putDn0 up n hu).putUp n up hn, ((Touch.refl _ _ _).setG _ _).setG _ _⟩
  · rw [show sd true = 1 from rfl]
    by_cases hu0 : up = 0
    · by_cases hn0 : n = 0
      · go_enter Tryz.func133, Tryz.ntmps133
        go_wp2
        go_end0
        subst hu0; subst hn0
        exact ⟨rfl, h.putRoot 0, (Touch.refl _ _ _).setT _ _⟩
      · go_enter Tryz.func133, Tryz.ntmps133
        go_wp2
        go_end0
        subst hu0
        unfold St.join St.join1
        rw [if_neg hn0]
        exact ⟨rfl, (h.putRoot n).putUp n 0 hn, ((Touch.refl _ _ _).setT _ _).setG _ _⟩
    · by_cases hn0 : n = 0
      · go_enter Tryz.func133, Tryz.ntmps133
        go_wp2
        go_end0
        subst hn0
        unfold St.join St.join1
        rw [if_pos rfl, if_neg hu0]
        exact ⟨rfl, h.putDn1 up 0 hu, (Touch.refl _ _ _).setG _ _⟩
      · go_enter Tryz.func133, Tryz.ntmps133
        go_wp2
        go_end0
        unfold St.join St.join1
        rw [if_neg hn0, if_neg hu0]
        exact ⟨rfl, (h.putDn1 up n hu).putUp n up hn, ((Touch.refl _ _ _).setG _ _).setG _ _⟩
end Go.Proofs.YtjjdkkdnlnbedaaGreat


namespace Go.Proofs.YtjjdkkdnlnbedaaGreat
open Go.RowKit

/-- All places of a tree are within bounds. -/
def Bd (P : Nat) (t : Tr) : Prop := ∀ p ∈ t.list, p ≤ P
theorem bd_node {P p : Nat} {l r : Tr} : Bd P (.node p l r) ↔ Bd P l ∧ p ≤ P ∧ Bd P r := by
  unfold Bd
  simp only [Tr.list, List.mem_append, List.mem_cons]
  constructor
  · intro h; exact ⟨fun q hq => h q (Or.inl hq), h p (Or.inr (Or.inl rfl)), fun q hq => h q (Or.inr (Or.inr hq))⟩
  · rintro ⟨h1, h2, h3⟩ q (hq | rfl | hq)
    · exact h1 q hq
    · exact h2
    · exact h3 q hq
theorem bd_root {P : Nat} {t : Tr} (h : Bd P t) : t.root ≤ P := by
  cases t with
  | nil => exact Nat.zero_le _
  | node p l r => exact (bd_node.1 h).2.1

set_option maxHeartbeats 1000000 in
theorem first_any (T G P : Nat) (st : St) (w : World) (h : Own w T G P st) (t : Tr) (u : Nat) (ht : Sh st.nd t u) (hb : Bd P t) :
    Calls Tryz.prog 110 #[.pointer (some ⟨T, 0, none⟩), .int .i64 t.root] w fun e w' => e = .returned (.int .i64 (t.fst 0)) ∧ ∃ m, w' = w.drewN m := by
  have hP := h.hP
  have c0 := h.slice
  go_enter Tryz.func110, Tryz.ntmps110
  go_wp2
  obtain ⟨J, hJ⟩ : ∃ J : Nat → Act → World → Prop, J = (fun k a' w' => ∃ (t' : Tr) (u' d m : Nat), k = t'.size ∧ w' = w.drewN m ∧ Sh st.nd t' u' ∧ Bd P t' ∧ t'.fst d = t.fst 0 ∧ ∃ us : Nat → Value, a' = { tmps := #[.pointer (some ⟨T, 0, none⟩), .int .i64 t'.root, us 2, us 3, .int .i64 0, .int .i64 d, us 6, us 7, us 8, us 9, us 10, us 11, us 12, us 13, us 14, us 15, us 16, us 17, us 18], defers := [] }) := ⟨_, rfl⟩
  replace hJ := hide hJ
  refine wp_scope_ghost 0 J rfl ?_ ?_
  · go_wp2
    exact ⟨_, by rw [unhide hJ]; exact ⟨t, u, 0, 0, rfl, rfl, ht, hb, rfl, frame_ex _ rfl⟩⟩
  · intro k a' w' hj
    rw [unhide hJ] at hj
    obtain ⟨t', u', d, m, rfl, rfl, ht', hb', hf, us, rfl⟩ := hj
    cases t' with
    | nil =>
      rw [show ((Tr.root .nil : Nat) : Int) = 0 from rfl]
      go_wp2
      simp only [Exit.jump]
      go_ret
      exact ⟨ret_int (by rw [← hf]; rfl), _, rfl⟩
    | node p l r =>
      rw [show Tr.root (.node p l r) = p from rfl]
      obtain ⟨hp, h1, h2, h3, h4, h5⟩ := ht'
      obtain ⟨b1, b2, b3⟩ := bd_node.1 hb'
      have c1 := (h.at p b2).2.2.2.2.2.2.1
      rw [h2] at c1
      go_wp2
      go_step3
      refine ⟨rfl, _, ?_, by rw [unhide hJ]; exact ⟨l, p, p, m, rfl, rfl, h4, b1, hf, frame_ex _ rfl⟩⟩
      simp only [Tr.size]; omega
end Go.Proofs.YtjjdkkdnlnbedaaGreat


namespace Go.Proofs.YtjjdkkdnlnbedaaGreat
open Go.RowKit

theorem Z.bdt {P : Nat} {st : St} {cx : Cx} {t : Tr} (h : Z P st cx t) : Bd P t := h.nd.bt
def nextOf (cx : Cx) (r : Tr) : Nat := match r with | .nil => cx.nxt | r => r.fst 0

set_option maxHeartbeats 1000000 in
theorem next_any (T G P : Nat) (st : St) (w : World) (h : Own w T G P st) (cx : Cx) (n : Nat) (l r : Tr) (hz : Z P st cx (.node n l r)) :
    Calls Tryz.prog 112 #[.pointer (some ⟨T, 0, none⟩), .int .i64 n] w fun e w' => e = .returned (.int .i64 (nextOf cx r)) ∧ ∃ m, w' = w.drewN m := by
  have hP := h.hP
  have c0 := h.slice
  have hn : n ≤ P := hz.bd
  have c1 := (h.at n hn).2.2.2.2.2.2.2
  rw [hz.sh.2.2.2.1] at c1
  cases r with
  | node p a b =>
    have hp : p ≠ 0 := hz.right.sh.1
    have HF := hide (fun m => first_any T G P st (w.drewN m) (h.drew m) (.node p a b) n hz.right.sh hz.right.bdt)
    rw [show (Tr.node p a b).root = p from rfl] at c1 HF
    unfold nextOf
    simp only
    go_enter Tryz.func112, Tryz.ntmps112
    go_wp2
    go_step3
    go_wp2_with (go_at_call 110; refine ((unhide HF) 0).mono ?_; rintro e w' ⟨rfl, m, rfl⟩)
    rw [Exit.noGoto_ret]
    go_ret
    exact ⟨rfl, _, rfl⟩
  | nil =>
    rw [show ((Tr.root .nil : Nat) : Int) = 0 from rfl] at c1
    unfold nextOf
    simp only
    obtain ⟨J, hJ⟩ : ∃ J : Nat → Act → World → Prop, J = (fun k a' w' => ∃ (cx' : Cx) (l' r' : Tr) (n' m : Nat), k = cx'.depth ∧ w' = w.drewN m ∧ Z P st cx' (.node n' l' r') ∧ cx'.nxt = cx.nxt ∧ ∃ us : Nat → Value, a' = { tmps := #[.pointer (some ⟨T, 0, none⟩), .int .i64 n', us 2, us 3, .int .i64 0, us 5, us 6, us 7, us 8, us 9, us 10, us 11, us 12, us 13, us 14, us 15, us 16, us 17, us 18, us 19, us 20, us 21, us 22, us 23, us 24, us 25, us 26, us 27, us 28, us 29, us 30, us 31, us 32, us 33, us 34, us 35, us 36, us 37, us 38, us 39], defers := [] }) := ⟨_, rfl⟩
    replace hJ := hide hJ
    go_enter Tryz.func112, Tryz.ntmps112
    go_wp2
    refine wp_scope_ghost 0 J rfl ?_ ?_
    · go_wp2
      exact ⟨_, by rw [unhide hJ]; exact ⟨cx, l, .nil, n, 0, rfl, rfl, hz, rfl, frame_ex _ rfl⟩⟩
    · clear c1
      intro k a' w' hj
      rw [unhide hJ] at hj
      obtain ⟨cx', l', r', n', m, rfl, rfl, hz', hx, us, rfl⟩ := hj
      have hn' : n' ≤ P := hz'.bd
      have hu' : (st.nd n').up ≤ P := by rw [hz'.sh.2.1]; exact hz'.par_bd
      have c1 := (h.at n' hn').2.2.2.2.2.1
      have HS := hide (fun m => side_any T G P st (w.drewN m) (h.drew m) n' hn' hu')
      rw [sideOf_z hz'] at HS
      rw [hz'.sh.2.1] at c1
      have HX := hide hx
      clear hx hu'
      cases cx' with
      | top =>
        rw [show sd Cx.top.side = 0 from rfl] at HS
        rw [show ((Cx.top.par : Nat) : Int) = 0 from rfl] at c1
        go_wp2_with (go_at_call 124; refine ((unhide HS) _).mono ?_; rintro e w' ⟨rfl, m', rfl⟩)
        simp only [Exit.jump]
        go_ret
        exact ⟨ret_int (by rw [← unhide HX]; rfl), _, rfl⟩
      | fr s p sib up =>
        cases s
        · rw [show sd (Cx.fr false p sib up).side = 0 from rfl] at HS
          rw [show ((Cx.fr false p sib up).par) = p from rfl] at c1
          go_wp2_with (go_at_call 124; refine ((unhide HS) _).mono ?_; rintro e w' ⟨rfl, m', rfl⟩)
          simp only [Exit.jump]
          go_ret
          exact ⟨ret_int (by rw [← unhide HX]; rfl), _, rfl⟩
        · rw [show sd (Cx.fr true p sib up).side = 1 from rfl] at HS
          rw [show ((Cx.fr true p sib up).par) = p from rfl] at c1
          go_wp2_with (go_at_call 124; refine ((unhide HS) _).mono ?_; rintro e w' ⟨rfl, m', rfl⟩)
          go_step3
          refine ⟨rfl, _, ?_, by rw [unhide hJ]; exact ⟨up, sib, .node n' l' r', p, m + m', rfl, rfl, z_move.2 hz', (unhide HX), frame_ex _ rfl⟩⟩
          simp only [Cx.depth]; omega

theorem two_below (w : World) (a b : Obj) (m : Nat) : Below w.heap.size w (((w.alloc a).alloc b).drewN m) := below_drewN (((Below.refl _ _).alloc (Nat.le_refl _) a).alloc ((Below.refl _ _).alloc (Nat.le_refl _) a).size b) m

theorem ahead_any (t1 s1 t2 s2 : Int) (w : World) :
    Calls Tryz.prog 132 #[.agg #[.int .i64 t1, .int .i64 s1], .agg #[.int .i64 t2, .int .i64 s2]] w fun e w' => e = .returned (.bool (klt t1 s1 t2 s2)) ∧ Below w.heap.size w w' := by
  unfold klt
  by_cases ht : t1 = t2
  · subst ht
    rw [if_pos rfl]
    cases d : decide (s1 < s2)
    all_goals
      go_enter Tryz.func132, Tryz.ntmps132
      go_wp2
      go_ret
      exact ⟨rfl, two_below _ _ _ 0⟩
  · rw [if_neg ht]
    cases d : decide (t1 < t2)
    all_goals
      go_enter Tryz.func132, Tryz.ntmps132
      go_wp2
      go_ret
      exact ⟨rfl, two_below _ _ _ 0⟩

theorem one_below (w : World) (a : Obj) : Below w.heap.size w (w.alloc a) := (Below.refl _ _).alloc (Nat.le_refl _) a
theorem handle_any (T G P : Nat) (st : St) (w : World) (h : Own w T G P st) (n : Nat) (hn : n ≤ P) :
    Calls Tryz.prog 109 #[.pointer (some ⟨T, 0, none⟩), .int .i64 n] w fun e w' => e = .returned (if n = 0 then .tuple #[.agg #[.int .i64 0, .int .i64 0], .bool false] else .tuple #[.agg #[.int .i64 n, .int .i64 (st.nd n).turn], .bool true]) ∧ Below w.heap.size w w' := by
  have hP := h.hP
  have hTl := h.box.lt
  have hGl := h.lt
  have c0 := h.slice
  have c1 := (h.at n hn).2.2.1
  by_cases h0 : n = 0
  · subst h0
    rw [if_pos rfl]
    go_enter Tryz.func109, Tryz.ntmps109
    go_wp2
    exact bodyPost_ret (v := .tuple #[.agg #[.int .i64 0, .int .i64 0], .bool false]) (by simp [results, Tryz.results109, go_sem]) rfl ⟨rfl, one_below _ _⟩
  · rw [if_neg h0]
    go_enter Tryz.func109, Tryz.ntmps109
    go_wp2
    refine bodyPost_ret (v := .tuple #[.agg #[.int .i64 n, .int .i64 (st.nd n).turn], .bool true]) (by simp [results, Tryz.results109, go_sem]) rfl ⟨rfl, ?_⟩
    exact one_below _ _

def hasB (P : Nat) (st : St) (pl tn : Int) : Bool := decide (1 ≤ pl) && decide (pl ≤ P) && (st.nd pl.toNat).filled && decide ((st.nd pl.toNat).turn = tn)
theorem has_any (T G P : Nat) (st : St) (w : World) (h : Own w T G P st) (pl tn : Int) :
    Calls Tryz.prog 111 #[.pointer (some ⟨T, 0, none⟩), .agg #[.int .i64 pl, .int .i64 tn]] w fun e w' => e = .returned (.bool (hasB P st pl tn)) ∧ Below w.heap.size w w' := by
  have hP := h.hP
  have hTl := h.box.lt
  have hGl := h.lt
  have c0 := h.slice
  unfold hasB
  by_cases h1 : 1 ≤ pl
  · by_cases h2 : pl ≤ P
    · obtain ⟨n, rfl⟩ := Int.eq_ofNat_of_zero_le (show 0 ≤ pl by omega)
      obtain ⟨d0, d1, d2, d3, d4, d5, d6, d7⟩ := h.at n (by omega)
      rw [show ((n : Int)).toNat = n from rfl]
      rw [decide_eq_true h1, decide_eq_true h2]
      obtain ⟨tu, htu⟩ : ∃ x, (st.nd n).turn = x := ⟨_, rfl⟩
      rw [htu] at d2 ⊢
      clear htu
      have hn0 : ¬ n = 0 := by omega
      have hn1 : ¬ P + 1 ≤ n := by omega
      have hn2 : ¬ P < n := by omega
      cases hf : (st.nd n).filled
      all_goals
        rw [hf] at d3
        by_cases ht : tu = tn
        · subst ht
          go_enter Tryz.func111, Tryz.ntmps111
          go_wp2
          go_quiet (fail)
          go_wp2
          go_region
          go_wp2
          go_ret
          exact ⟨by simp <;> rfl, below_drewN (two_below _ _ _ 0) _⟩
        · go_enter Tryz.func111, Tryz.ntmps111
          go_wp2
          go_quiet (fail)
          go_wp2
          go_region
          go_wp2
          go_ret
          exact ⟨by simp <;> rfl, below_drewN (two_below _ _ _ 0) _⟩
    · rw [decide_eq_false h2]
      have g1 : ¬ pl ≤ 0 := by omega
      have g2 : (P : Int) + 1 ≤ pl := by omega
      go_enter Tryz.func111, Tryz.ntmps111
      go_wp2
      go_quiet (fail)
      go_wp2
      go_ret
      exact ⟨by simp, below_drewN (one_below _ _) _⟩
  · rw [decide_eq_false h1]
    have g1 : pl ≤ 0 := by omega
    go_enter Tryz.func111, Tryz.ntmps111
    go_wp2
    go_quiet (fail)
    go_wp2
    go_ret
    exact ⟨by simp, below_drewN (one_below _ _) _⟩
end Go.Proofs.YtjjdkkdnlnbedaaGreat


namespace Go.Proofs.YtjjdkkdnlnbedaaGreat

theorem nxt_head : ∀ cx : Cx, cx.nxt = cx.post.headD 0
  | .top => rfl
  | .fr false _ _ _ => rfl
  | .fr true _ _ up => nxt_head up
/-- The next place is the one that stands behind in the row. -/
theorem nextOf_head (cx : Cx) (r : Tr) : nextOf cx r = (r.list ++ cx.post).headD 0 := by
  unfold nextOf
  cases r with
  | nil => simp only [Tr.list, List.nil_append]; exact nxt_head cx
  | node p a b =>
    show Tr.fst 0 (.node p a b) = _
    rw [fst_list]
    cases h : (Tr.node p a b).list with
    | nil => simp [Tr.list] at h
    | cons x y => rfl
/-- Where a place stands in a row without doubles. -/
theorem split_unique {A A' B B' : List Nat} {n : Nat} (h : A ++ n :: B = A' ++ n :: B') (hn : (A ++ n :: B).Nodup) : A = A' ∧ B = B' := by
  induction A generalizing A' with
  | nil =>
    cases A' with
    | nil => simp at h; exact ⟨rfl, h⟩
    | cons x xs =>
      simp only [List.nil_append, List.cons_append, List.cons.injEq] at h
      obtain ⟨rfl, rfl⟩ := h
      simp [List.nodup_cons] at hn
  | cons a rest ih =>
    cases A' with
    | nil =>
      simp only [List.nil_append, List.cons_append, List.cons.injEq] at h
      obtain ⟨rfl, rfl⟩ := h
      simp [List.nodup_cons] at hn
    | cons x xs =>
      simp only [List.cons_append, List.cons.injEq] at h
      obtain ⟨rfl, h⟩ := h
      obtain ⟨e1, e2⟩ := ih h (List.nodup_cons.1 hn).2
      exact ⟨by rw [e1], e2⟩
/-- What hasB asks: the place is among the tree's, with that turn. -/
theorem hasB_iff {P : Nat} {st : St} {t : Tr} {fl : List Nat} (hi : Inv P st t fl) (pl tn : Int) : hasB P st pl tn = true ↔ 0 ≤ pl ∧ pl.toNat ∈ t.list ∧ (st.nd pl.toNat).turn = tn := by
  unfold hasB
  simp only [Bool.and_eq_true, decide_eq_true_eq]
  constructor
  · rintro ⟨⟨⟨h1, h2⟩, h3⟩, h4⟩
    exact ⟨by omega, (hi.fil _ (by omega)).1 h3, h4⟩
  · rintro ⟨h1, h2, h3⟩
    have hb := hi.good.z.nd.bt _ h2
    have h0 : pl.toNat ≠ 0 := fun e => not_zero_mem hi.good.z.sh (e ▸ h2)
    exact ⟨⟨⟨by omega, by omega⟩, (hi.fil _ hb).2 h2⟩, h3⟩
/-- How high a tree is. -/
theorem inv_balance {P : Nat} {st : St} {t : Tr} {fl : List Nat} (hi : Inv P st t fl) : t.most ≤ 2 * t.least := by
  obtain ⟨K, h⟩ := hi.good.rb
  have := rb_ways h
  rw [hi.good.root] at this
  simp only [Bool.false_eq_true, if_false] at this
  omega
end Go.Proofs.YtjjdkkdnlnbedaaGreat

