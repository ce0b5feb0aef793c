import Derived.Test.YtihfldjoogaolaaTh
namespace Go.Proofs.Ytihfldjoogaolaa
open Go.RowKit

theorem setAt_setAt (f : Nat → Nd) (i : Nat) (x y : Nd) : setAt (setAt f i x) i y = setAt f i y := by
  funext j; unfold setAt; by_cases e : j = i <;> simp [e]
theorem setAt_at (f : Nat → Nd) (i : Nat) (x : Nd) : setAt f i x i = x := by unfold setAt; rw [if_pos rfl]


/-- All cells of a place are written. -/
theorem Holds.putAll {w : World} {G P : Nat} {nd : Nat → Nd} (h : Holds w G P nd) (i : Nat) (hi : i ≤ P) (x : Nd) :
    Holds ((((((((w.setCell ⟨G, i * 8, none⟩ (.int .i64 x.time)).setCell ⟨G, i * 8 + 1, none⟩ (.int .i64 x.seq)).setCell ⟨G, i * 8 + 2, none⟩ (.int .i64 x.turn)).setCell ⟨G, i * 8 + 3, none⟩ (.bool x.filled)).setCell ⟨G, i * 8 + 4, none⟩ (.bool x.red)).setCell ⟨G, i * 8 + 5, none⟩ (.int .i64 x.up)).setCell ⟨G, i * 8 + 6, none⟩ (.int .i64 (x.dn false))).setCell ⟨G, i * 8 + 7, none⟩ (.int .i64 (x.dn true))) G P (setAt nd i x) := by
  refine ⟨fun p hp k hk => ?_, fun j => by simp only [World.frozen?_setCell]; exact h.free j⟩
  have hc := h.cell p hp k hk
  by_cases e : p = i
  · subst e
    rw [setAt_at]
    have c : ∀ j, j < 8 → w.cell? ⟨G, p * 8 + j, none⟩ = some (fld (nd p) j) := fun j hj => h.cell p hp j hj
    have ne : ∀ a b : Nat, a ≠ b → (⟨G, p * 8 + a, none⟩ : Addr) ≠ ⟨G, p * 8 + b, none⟩ := by
      intro a b hab q
      simp only [Addr.mk.injEq, true_and, and_true] at q
      omega
    have ne0 : ∀ b : Nat, 0 ≠ b → (⟨G, p * 8, none⟩ : Addr) ≠ ⟨G, p * 8 + b, none⟩ := ne 0
    have s0 := c 0 (by omega); have s1 := c 1 (by omega); have s2 := c 2 (by omega); have s3 := c 3 (by omega)
    have s4 := c 4 (by omega); have s5 := c 5 (by omega); have s6 := c 6 (by omega); have s7 := c 7 (by omega)
    rcases (show k = 0 ∨ k = 1 ∨ k = 2 ∨ k = 3 ∨ k = 4 ∨ k = 5 ∨ k = 6 ∨ k = 7 by omega) with rfl | rfl | rfl | rfl | rfl | rfl | rfl | rfl
    · rw [World.cell?_setCell_other _ _ _ _ (ne 7 0 (by omega)), World.cell?_setCell_other _ _ _ _ (ne 6 0 (by omega)), World.cell?_setCell_other _ _ _ _ (ne 5 0 (by omega)), World.cell?_setCell_other _ _ _ _ (ne 4 0 (by omega)), World.cell?_setCell_other _ _ _ _ (ne 3 0 (by omega)), World.cell?_setCell_other _ _ _ _ (ne 2 0 (by omega)), World.cell?_setCell_other _ _ _ _ (ne 1 0 (by omega))]
      exact World.cell?_setCell_same _ _ _ s0
    · rw [World.cell?_setCell_other _ _ _ _ (ne 7 1 (by omega)), World.cell?_setCell_other _ _ _ _ (ne 6 1 (by omega)), World.cell?_setCell_other _ _ _ _ (ne 5 1 (by omega)), World.cell?_setCell_other _ _ _ _ (ne 4 1 (by omega)), World.cell?_setCell_other _ _ _ _ (ne 3 1 (by omega)), World.cell?_setCell_other _ _ _ _ (ne 2 1 (by omega))]
      exact World.cell?_setCell_same _ _ _ (u := fld (nd p) 1) (by rw [World.cell?_setCell_other _ _ _ _ (ne0 1 (by omega))]; exact s1)
    · rw [World.cell?_setCell_other _ _ _ _ (ne 7 2 (by omega)), World.cell?_setCell_other _ _ _ _ (ne 6 2 (by omega)), World.cell?_setCell_other _ _ _ _ (ne 5 2 (by omega)), World.cell?_setCell_other _ _ _ _ (ne 4 2 (by omega)), World.cell?_setCell_other _ _ _ _ (ne 3 2 (by omega))]
      exact World.cell?_setCell_same _ _ _ (u := fld (nd p) 2) (by rw [World.cell?_setCell_other _ _ _ _ (ne 1 2 (by omega)), World.cell?_setCell_other _ _ _ _ (ne0 2 (by omega))]; exact s2)
    · rw [World.cell?_setCell_other _ _ _ _ (ne 7 3 (by omega)), World.cell?_setCell_other _ _ _ _ (ne 6 3 (by omega)), World.cell?_setCell_other _ _ _ _ (ne 5 3 (by omega)), World.cell?_setCell_other _ _ _ _ (ne 4 3 (by omega))]
      exact World.cell?_setCell_same _ _ _ (u := fld (nd p) 3) (by rw [World.cell?_setCell_other _ _ _ _ (ne 2 3 (by omega)), World.cell?_setCell_other _ _ _ _ (ne 1 3 (by omega)), World.cell?_setCell_other _ _ _ _ (ne0 3 (by omega))]; exact s3)
    · rw [World.cell?_setCell_other _ _ _ _ (ne 7 4 (by omega)), World.cell?_setCell_other _ _ _ _ (ne 6 4 (by omega)), World.cell?_setCell_other _ _ _ _ (ne 5 4 (by omega))]
      exact World.cell?_setCell_same _ _ _ (u := fld (nd p) 4) (by rw [World.cell?_setCell_other _ _ _ _ (ne 3 4 (by omega)), World.cell?_setCell_other _ _ _ _ (ne 2 4 (by omega)), World.cell?_setCell_other _ _ _ _ (ne 1 4 (by omega)), World.cell?_setCell_other _ _ _ _ (ne0 4 (by omega))]; exact s4)
    · rw [World.cell?_setCell_other _ _ _ _ (ne 7 5 (by omega)), World.cell?_setCell_other _ _ _ _ (ne 6 5 (by omega))]
      exact World.cell?_setCell_same _ _ _ (u := fld (nd p) 5) (by rw [World.cell?_setCell_other _ _ _ _ (ne 4 5 (by omega)), World.cell?_setCell_other _ _ _ _ (ne 3 5 (by omega)), World.cell?_setCell_other _ _ _ _ (ne 2 5 (by omega)), World.cell?_setCell_other _ _ _ _ (ne 1 5 (by omega)), World.cell?_setCell_other _ _ _ _ (ne0 5 (by omega))]; exact s5)
    · rw [World.cell?_setCell_other _ _ _ _ (ne 7 6 (by omega))]
      exact World.cell?_setCell_same _ _ _ (u := fld (nd p) 6) (by rw [World.cell?_setCell_other _ _ _ _ (ne 5 6 (by omega)), World.cell?_setCell_other _ _ _ _ (ne 4 6 (by omega)), World.cell?_setCell_other _ _ _ _ (ne 3 6 (by omega)), World.cell?_setCell_other _ _ _ _ (ne 2 6 (by omega)), World.cell?_setCell_other _ _ _ _ (ne 1 6 (by omega)), World.cell?_setCell_other _ _ _ _ (ne0 6 (by omega))]; exact s6)
    · exact World.cell?_setCell_same _ _ _ (u := fld (nd p) 7) (by rw [World.cell?_setCell_other _ _ _ _ (ne 6 7 (by omega)), World.cell?_setCell_other _ _ _ _ (ne 5 7 (by omega)), World.cell?_setCell_other _ _ _ _ (ne 4 7 (by omega)), World.cell?_setCell_other _ _ _ _ (ne 3 7 (by omega)), World.cell?_setCell_other _ _ _ _ (ne 2 7 (by omega)), World.cell?_setCell_other _ _ _ _ (ne 1 7 (by omega)), World.cell?_setCell_other _ _ _ _ (ne0 7 (by omega))]; exact s7)
  · have : setAt nd i x p = nd p := by unfold setAt; rw [if_neg e]
    rw [this]
    have ne : ∀ j, j < 8 → (⟨G, i * 8 + j, none⟩ : Addr) ≠ ⟨G, p * 8 + k, none⟩ := by
      intro j hj q
      simp only [Addr.mk.injEq, true_and, and_true] at q
      omega
    have ne0 : (⟨G, i * 8, none⟩ : Addr) ≠ ⟨G, p * 8 + k, none⟩ := ne 0 (by omega)
    rw [World.cell?_setCell_other _ _ _ _ (ne 7 (by omega)), World.cell?_setCell_other _ _ _ _ (ne 6 (by omega)), World.cell?_setCell_other _ _ _ _ (ne 5 (by omega)), World.cell?_setCell_other _ _ _ _ (ne 4 (by omega)), World.cell?_setCell_other _ _ _ _ (ne 3 (by omega)), World.cell?_setCell_other _ _ _ _ (ne 2 (by omega)), World.cell?_setCell_other _ _ _ _ (ne 1 (by omega)), World.cell?_setCell_other _ _ _ _ ne0]
    exact hc
theorem Own.putAll {w : World} {T G P : Nat} {st : St} (h : Own w T G P st) (i : Nat) (hi : i ≤ P) (x : Nd) :
    Own ((((((((w.setCell ⟨G, i * 8, none⟩ (.int .i64 x.time)).setCell ⟨G, i * 8 + 1, none⟩ (.int .i64 x.seq)).setCell ⟨G, i * 8 + 2, none⟩ (.int .i64 x.turn)).setCell ⟨G, i * 8 + 3, none⟩ (.bool x.filled)).setCell ⟨G, i * 8 + 4, none⟩ (.bool x.red)).setCell ⟨G, i * 8 + 5, none⟩ (.int .i64 x.up)).setCell ⟨G, i * 8 + 6, none⟩ (.int .i64 (x.dn false))).setCell ⟨G, i * 8 + 7, none⟩ (.int .i64 (x.dn true))) T G P { st with nd := setAt st.nd i x } :=
  ⟨h.hP, h.ne, (((((((h.box.other (fun e => h.ne e.symm) _ _).other (fun e => h.ne e.symm) _ _).other (fun e => h.ne e.symm) _ _).other (fun e => h.ne e.symm) _ _).other (fun e => h.ne e.symm) _ _).other (fun e => h.ne e.symm) _ _).other (fun e => h.ne e.symm) _ _).other (fun e => h.ne e.symm) _ _, h.nod.putAll i hi x, by simpa using h.lt⟩

theorem Own.drew1 {w : World} {T G P : Nat} {st : St} (h : Own w T G P st) : Own w.drew T G P st := ⟨h.hP, h.ne, h.box, ⟨h.nod.cell, h.nod.free⟩, h.lt⟩
theorem Touch.drew1 {T G : Nat} {a b : World} (h : Touch T G a b) : Touch T G a b.drew := ⟨h.os, h.tape, h.output, h.size, h.block⟩
theorem Blk.drew1 {w : World} {g : Nat} {t : TypeId} {cs : Array Value} (h : Blk w g t cs) : Blk w.drew g t cs := h
theorem Blk.touch {w w' : World} {T G g : Nat} {t : TypeId} {cs : Array Value} (h : Blk w g t cs) (ht : Touch T G w w') (h1 : g ≠ T) (h2 : g ≠ G) : Blk w' g t cs := by
  have hl := h.lt
  unfold Blk at h ⊢
  rw [ht.block g hl h1 h2]; exact h

theorem Touch.setNew {T G : Nat} {a b : World} (h : Touch T G a b) {p : Addr} (hp : a.heap.size ≤ p.block) (v : Value) : Touch T G a (b.setCell p v) :=
  ⟨h.os, h.tape, h.output, by simpa using h.size, fun i hi h1 h2 => (Below.heap_setCell b p v i (by omega)).trans (h.block i hi h1 h2)⟩
theorem Own.setOther {w : World} {T G P : Nat} {st : St} (h : Own w T G P st) {k : Nat} (h1 : k ≠ T) (h2 : k ≠ G) (j : Nat) (v : Value) : Own (w.setCell ⟨k, j, none⟩ v) T G P st :=
  ⟨h.hP, h.ne, h.box.other h1 _ _, ⟨fun i hi q hq => by rw [World.cell?_setCell_other _ _ _ _ (by intro e; simp only [Addr.mk.injEq] at e; exact h2 e.1)]; exact h.nod.cell i hi q hq, fun j => by rw [World.frozen?_setCell]; exact h.nod.free j⟩, by simpa using h.lt⟩

/-- The new node has its key. -/
theorem fill_facts {w W1 : World} {T G P B : Nat} {st : St} {f n : Nat} {a b tu : Int} (h : Own W1 T G P { st with free := f }) (ht : Touch T G w W1) (hb : Blk W1 (B + 1) 51 #[.int .i64 0, .int .i64 0])
    (hn : n ≤ P) (htu : (st.nd n).turn = tu) (hf : (st.nd n).dn false = f) (hg : G ≠ B + 1) (ht' : T ≠ B + 1) :
    Own (((((((((W1.setCell ⟨G, n * 8, none⟩ (.int .i64 a)).setCell ⟨G, n * 8 + 1, none⟩ (.int .i64 b)).setCell ⟨G, n * 8 + 2, none⟩ (.int .i64 (tu + 1))).setCell ⟨G, n * 8 + 3, none⟩ (.bool true)).setCell ⟨G, n * 8 + 4, none⟩ (.bool true)).setCell ⟨G, n * 8 + 5, none⟩ (.int .i64 0)).setCell ⟨G, n * 8 + 6, none⟩ (.int .i64 0)).setCell ⟨G, n * 8 + 7, none⟩ (.int .i64 0)).setCell ⟨T, 3, none⟩ (.int .i64 (st.count + 1))).drew T G P (st.fill n a b) ∧ Touch T G w ((((((((((W1.setCell ⟨G, n * 8, none⟩ (.int .i64 a)).setCell ⟨G, n * 8 + 1, none⟩ (.int .i64 b)).setCell ⟨G, n * 8 + 2, none⟩ (.int .i64 (tu + 1))).setCell ⟨G, n * 8 + 3, none⟩ (.bool true)).setCell ⟨G, n * 8 + 4, none⟩ (.bool true)).setCell ⟨G, n * 8 + 5, none⟩ (.int .i64 0)).setCell ⟨G, n * 8 + 6, none⟩ (.int .i64 0)).setCell ⟨G, n * 8 + 7, none⟩ (.int .i64 0)).setCell ⟨T, 3, none⟩ (.int .i64 (st.count + 1))).drew) ∧ Blk ((((((((((W1.setCell ⟨G, n * 8, none⟩ (.int .i64 a)).setCell ⟨G, n * 8 + 1, none⟩ (.int .i64 b)).setCell ⟨G, n * 8 + 2, none⟩ (.int .i64 (tu + 1))).setCell ⟨G, n * 8 + 3, none⟩ (.bool true)).setCell ⟨G, n * 8 + 4, none⟩ (.bool true)).setCell ⟨G, n * 8 + 5, none⟩ (.int .i64 0)).setCell ⟨G, n * 8 + 6, none⟩ (.int .i64 0)).setCell ⟨G, n * 8 + 7, none⟩ (.int .i64 0)).setCell ⟨T, 3, none⟩ (.int .i64 (st.count + 1))).drew) (B + 1) 51 #[.int .i64 0, .int .i64 0] := by
  refine ⟨?_, ?_, ?_⟩
  · have q := ((h.putAll n hn (fresh a b (tu + 1))).putCount (st.count + 1)).drew1
    have e : St.fill st n a b = ⟨setAt st.nd n (fresh a b (tu + 1)), st.root, f, st.count + 1⟩ := by unfold St.fill; rw [htu, hf]
    rw [e]
    exact q
  · exact (((((((((ht.setG _ _).setG _ _).setG _ _).setG _ _).setG _ _).setG _ _).setG _ _).setG _ _).setT _ _).drew1
  · exact (((((((((hb.other hg _ _).other hg _ _).other hg _ _).other hg _ _).other hg _ _).other hg _ _).other hg _ _).other hg _ _).other ht' _ _).drew1

set_option maxRecDepth 100000 in
set_option maxHeartbeats 4000000 in
theorem put_any (T G P : Nat) (st : St) (w : World) (h : Own w T G P st) (t : Tr) (fl : List Nat) (n : Nat) (hi : Inv P st t (n :: fl)) (a b : Int) (ht0 : 0 ≤ (st.nd n).turn) (ht : (st.nd n).turn < 1000000) :
    Calls Try.prog 18 #[.pointer (some ⟨T, 0, none⟩), .agg #[.int .i64 a, .int .i64 b]] w fun e w' => e = .returned (.tuple #[.agg #[.int .i64 n, .int .i64 ((st.nd n).turn + 1)], .int .i64 0]) ∧
      ∃ st' t' pre post, Own w' T G P st' ∧ Touch T G w w' ∧ Inv P st' t' fl ∧ t'.list = pre ++ n :: post ∧ t.list = pre ++ post ∧ (∀ x ∈ pre, kle st' n x = false) ∧ (∀ x ∈ post, kle st' n x = true) ∧
      SameK (st'.nd n) (fresh a b ((st.nd n).turn + 1)) ∧ (∀ x, x ≠ n → SameK (st'.nd x) (st.nd x)) := by
  have hP := h.hP
  have hTG := h.ne
  have hTl := h.box.lt
  have hGl := h.lt
  have c0 := h.slice
  have cf := h.free
  have fr2 := h.ofree
  have hfree : st.free = n := hi.chain.1
  obtain ⟨h0, hn, nt⟩ := hi.fbd n (by simp)
  have hc : st.count ≤ 5000 := by have h1 := hi.count; have h2 := hi.cover; omega
  rw [hfree] at cf
  obtain ⟨d0, d1, d2, d3, d4, d5, d6, d7⟩ := h.at n hn
  obtain ⟨tu, htu⟩ : ∃ x, (st.nd n).turn = x := ⟨_, rfl⟩
  obtain ⟨f, hf⟩ : ∃ x, (st.nd n).dn false = x := ⟨_, rfl⟩
  rw [htu]
  rw [htu] at ht ht0 d2
  rw [hf] at d6
  have HN := hide (And.intro htu hf)
  have HI := hide hi
  clear htu hf hi hfree nt
  obtain ⟨B, hB⟩ : ∃ B, w.heap.size = B := ⟨_, rfl⟩
  have hBG : G < B := by rw [← hB]; exact h.lt
  have hBT : T < B := by rw [← hB]; exact h.box.lt
  go_enter Try.func18, Try.ntmps18
  go_wp2
  obtain ⟨W1, hW1⟩ : ∃ W1, W1 = ((w.setCell ⟨T, 2, none⟩ (.int .i64 f)).alloc (.cells #[.int .i64 a, .int .i64 b] 55)).alloc (.cells #[.int .i64 0, .int .i64 0] 51) := ⟨_, rfl⟩
  rw [← hW1]
  have o1 : Own W1 T G P { st with free := f } := by rw [hW1]; exact (h.putFree f).below (two_below _ _ _ 0)
  have t1 : Touch T G w W1 := by rw [hW1]; exact ((Touch.refl _ _ _).setT _ _).trans (Touch.of_below (two_below _ _ _ 0))
  have k1 : Blk W1 B 55 #[.int .i64 a, .int .i64 b] := by rw [hW1]; exact (Blk.new_at (w.setCell _ _) _ _ (by simp [hB])).alloc _
  have k2 : Blk W1 (B + 1) 51 #[.int .i64 0, .int .i64 0] := by rw [hW1]; exact Blk.new_at ((w.setCell _ _).alloc _) _ _ (by simp [hB])
  clear hW1 c0 cf fr2 d0 d1 d2 d3 d4 d5 d6 d7 hTl hGl
  have c0 := o1.slice
  have cc := o1.count
  have fr := o1.nod.free
  have fr2 := o1.ofree
  obtain ⟨d0, d1, d2, d3, d4, d5, d6, d7⟩ := o1.at n hn
  have e0 := k1.cell 0
  have e1 := k1.cell 1
  simp only [List.getElem?_toArray, List.getElem?_cons_zero, List.getElem?_cons_succ] at e0 e1
  have O1 := hide (And.intro o1 (And.intro t1 k2))
  clear k1 k2 o1 t1
  go_region
  go_wp2_with (go_at_call 25; refine Hid.out ?_)
  refine hide ?_
  obtain ⟨W2, hW2⟩ : ∃ W2, W2 = (((((((((W1.setCell ⟨G, n * 8, none⟩ (.int .i64 a)).setCell ⟨G, n * 8 + 1, none⟩ (.int .i64 b)).setCell ⟨G, n * 8 + 2, none⟩ (.int .i64 (tu + 1))).setCell ⟨G, n * 8 + 3, none⟩ (.bool true)).setCell ⟨G, n * 8 + 4, none⟩ (.bool true)).setCell ⟨G, n * 8 + 5, none⟩ (.int .i64 0)).setCell ⟨G, n * 8 + 6, none⟩ (.int .i64 0)).setCell ⟨G, n * 8 + 7, none⟩ (.int .i64 0)).setCell ⟨T, 3, none⟩ (.int .i64 (st.count + 1))).drew := ⟨_, rfl⟩
  rw [← hW2]
  obtain ⟨o2, t2, k2⟩ : Own W2 T G P (st.fill n a b) ∧ Touch T G w W2 ∧ Blk W2 (B + 1) 51 #[.int .i64 0, .int .i64 0] := by
    rw [hW2]
    exact fill_facts (unhide O1).1 (unhide O1).2.1 (unhide O1).2.2 hn (unhide HN).1 (unhide HN).2 (by omega) (by omega)
  have O2 := hide (And.intro o2 (And.intro t2 k2))
  clear hW2 o2 t2 k2 c0 cc fr fr2 d0 d1 d2 d3 d4 d5 d6 d7 e0 e1
  have hz2 : Z P (st.fill n a b) .top t := fill_z (unhide HI).good.z (((unhide HI).fbd n (by simp)).2.2) h0
  refine (hang_any T G P _ W2 (unhide O2).1 t n hz2 hn).mono ?_
  rintro e w3 ⟨rfl, cx, hcx, hpath, o3, t3⟩
  have O3 := hide (And.intro o3 (And.intro t3 (And.intro hcx hpath)))
  have CM := hide (mendRed_any T G P _ w3 o3 cx n 0 .nil .nil (put_red (unhide HI) hcx))
  clear o3 t3 hcx hpath hz2
  go_wp2_with (go_at_call 26; refine Hid.out ?_)
  refine hide ?_
  refine (unhide CM).mono ?_
  rintro e w4 ⟨rfl, st4, t4, o4, tt4, g4, l4, kp4⟩
  have FIN := hide (put_inv (unhide HI) (unhide O3).2.2.1 (unhide O3).2.2.2 g4 l4 kp4)
  have tt : Touch T G W2 w4 := (unhide O3).2.1.trans tt4
  have k4 : Blk w4 (B + 1) 51 #[.int .i64 0, .int .i64 0] := (unhide O2).2.2.touch tt (by omega) (by omega)
  have f0 := k4.free 0
  have f1 := k4.free 1
  have g0 := k4.cell 0
  have g1 := k4.cell 1
  simp only [List.getElem?_toArray, List.getElem?_cons_zero, List.getElem?_cons_succ] at g0 g1
  have O4 := hide (And.intro o4 (And.intro ((unhide O2).2.1.trans tt) k4))
  clear o4 tt4 g4 l4 kp4 tt k4
  go_wp2
  obtain ⟨F1, F2, F3, F4, F5, F6, F7⟩ := unhide FIN
  rw [(unhide HN).1] at F6
  refine bodyPost_ret (v := .tuple #[.agg #[.int .i64 n, .int .i64 (tu + 1)], .int .i64 0]) (by simp [results, Try.results18, go_sem, g0, g1]) rfl ⟨rfl, st4, t4, cx.pre, cx.post, ?_, ?_, F1, F2, F3, F4, F5, F6, F7⟩
  · exact ((unhide O4).1.setOther (by omega) (by omega) _ _).setOther (by omega) (by omega) _ _
  · exact ((unhide O4).2.1.setNew (by dsimp only; omega) _).setNew (by dsimp only; omega) _

set_option maxRecDepth 100000 in
theorem put_full (T G P : Nat) (st : St) (w : World) (h : Own w T G P st) (hf : st.free = 0) (a b : Int) :
    Calls Try.prog 18 #[.pointer (some ⟨T, 0, none⟩), .agg #[.int .i64 a, .int .i64 b]] w fun e w' => e = .returned (.tuple #[.agg #[.int .i64 0, .int .i64 0], .int .i64 3]) ∧ Below w.heap.size w w' := by
  have hTl := h.box.lt
  have cf := h.free
  rw [hf] at cf
  rw [show ((0 : Nat) : Int) = 0 from rfl] at cf
  go_enter Try.func18, Try.ntmps18
  go_wp2
  exact bodyPost_ret (v := .tuple #[.agg #[.int .i64 0, .int .i64 0], .int .i64 3]) (by simp [results, Try.results18, go_sem]) rfl ⟨rfl, two_below _ _ _ 0⟩
theorem put_nil (w : World) (a b : Int) :
    Calls Try.prog 18 #[.pointer none, .agg #[.int .i64 a, .int .i64 b]] w fun e w' => e = .returned (.tuple #[.agg #[.int .i64 0, .int .i64 0], .int .i64 1]) ∧ Below w.heap.size w w' := by
  go_enter Try.func18, Try.ntmps18
  go_wp2
  exact bodyPost_ret (v := .tuple #[.agg #[.int .i64 0, .int .i64 0], .int .i64 1]) (by simp [results, Try.results18, go_sem]) rfl ⟨rfl, two_below _ _ _ 0⟩
end Go.Proofs.Ytihfldjoogaolaa
