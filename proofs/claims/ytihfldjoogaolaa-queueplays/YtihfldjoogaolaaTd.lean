import Derived.Test.YtihfldjoogaolaaTu3
import Derived.Test.YtihfldjoogaolaaTpMath10
namespace Go.Proofs.Ytihfldjoogaolaa
open Go.RowKit

theorem clear_facts {w w2 : World} {T G P : Nat} {st : St} {f n : Nat} {tu : Int} (h : Own w2 T G P st) (ht : Touch T G w w2) (hn : n ≤ P) (hf : st.free = f) (hc : 1 ≤ st.count) :
    Own ((((((((((w2.setCell ⟨G, n * 8, none⟩ (.int .i64 0)).setCell ⟨G, n * 8 + 1, none⟩ (.int .i64 0)).setCell ⟨G, n * 8 + 2, none⟩ (.int .i64 tu)).setCell ⟨G, n * 8 + 3, none⟩ (.bool false)).setCell ⟨G, n * 8 + 4, none⟩ (.bool false)).setCell ⟨G, n * 8 + 5, none⟩ (.int .i64 0)).setCell ⟨G, n * 8 + 6, none⟩ (.int .i64 f)).setCell ⟨G, n * 8 + 7, none⟩ (.int .i64 0)).setCell ⟨T, 2, none⟩ (.int .i64 n)).setCell ⟨T, 3, none⟩ (.int .i64 ((st.count : Int) - 1))).drew T G P (st.clear n tu) ∧ Touch T G w (((((((((((w2.setCell ⟨G, n * 8, none⟩ (.int .i64 0)).setCell ⟨G, n * 8 + 1, none⟩ (.int .i64 0)).setCell ⟨G, n * 8 + 2, none⟩ (.int .i64 tu)).setCell ⟨G, n * 8 + 3, none⟩ (.bool false)).setCell ⟨G, n * 8 + 4, none⟩ (.bool false)).setCell ⟨G, n * 8 + 5, none⟩ (.int .i64 0)).setCell ⟨G, n * 8 + 6, none⟩ (.int .i64 f)).setCell ⟨G, n * 8 + 7, none⟩ (.int .i64 0)).setCell ⟨T, 2, none⟩ (.int .i64 n)).setCell ⟨T, 3, none⟩ (.int .i64 ((st.count : Int) - 1))).drew) := by
  refine ⟨?_, ?_⟩
  · have q := (((h.putAll n hn (emptied tu f)).putFree n).putCount (st.count - 1)).drew1
    have e : St.clear st n tu = ⟨setAt st.nd n (emptied tu f), st.root, n, st.count - 1⟩ := by unfold St.clear; rw [hf]
    have e2 : ((st.count - 1 : Nat) : Int) = (st.count : Int) - 1 := by omega
    rw [e2] at q
    rw [e]
    exact q
  · exact ((((((((((ht.setG _ _).setG _ _).setG _ _).setG _ _).setG _ _).setG _ _).setG _ _).setG _ _).setT _ _).setT _ _).drew1

theorem drop_nil (w : World) (a b : Int) :
    Calls Try.prog 20 #[.pointer none, .agg #[.int .i64 a, .int .i64 b]] w fun e w' => e = .returned (.int .i64 1) ∧ Below w.heap.size w w' := by
  go_enter Try.func20, Try.ntmps20
  go_wp2
  go_ret
  exact ⟨rfl, one_below _ _⟩
theorem drop_none (T G P : Nat) (st : St) (w : World) (h : Own w T G P st) (a b : Int) (hh : hasB P st a b = false) :
    Calls Try.prog 20 #[.pointer (some ⟨T, 0, none⟩), .agg #[.int .i64 a, .int .i64 b]] w fun e w' => e = .returned (.int .i64 7) ∧ Below w.heap.size w w' := by
  have CH := hide (fun (w' : World) (o' : Own w' T G P st) => has_any T G P st w' o' a b)
  rw [hh] at CH
  have hO := hide (h.below (one_below w (.cells #[.int .i64 a, .int .i64 b] 51)))
  clear h
  go_enter Try.func20, Try.ntmps20
  go_wp2_with (go_at_call 27; refine ((unhide CH) _ (unhide hO)).mono ?_; rintro e w1 ⟨rfl, hb1⟩)
  go_ret
  exact ⟨rfl, (one_below _ _).trans (hb1.mono (one_below _ _).size)⟩

set_option maxRecDepth 100000 in
set_option maxHeartbeats 4000000 in
theorem drop_any (T G P : Nat) (st : St) (w : World) (h : Own w T G P st) (t : Tr) (fl : List Nat) (hi : Inv P st t fl) (n : Nat) (tu : Int) (hh : hasB P st n tu = true) :
    Calls Try.prog 20 #[.pointer (some ⟨T, 0, none⟩), .agg #[.int .i64 n, .int .i64 tu]] w fun e w' => e = .returned (.int .i64 0) ∧
      ∃ st' t' A B, Own w' T G P st' ∧ Touch T G w w' ∧ Inv P st' t' (n :: fl) ∧ t.list = A ++ n :: B ∧ t'.list = A ++ B ∧ (∀ x, x ≠ n → SameK (st'.nd x) (st.nd x)) ∧ (st'.nd n).turn = tu := by
  have CH := hide (fun (w' : World) (o' : Own w' T G P st) => has_any T G P st w' o' n tu)
  rw [hh] at CH
  have hP := h.hP
  have hTG := h.ne
  obtain ⟨B0, hB⟩ : ∃ B, w.heap.size = B := ⟨_, rfl⟩
  have hBG : G < B0 := by rw [← hB]; exact h.lt
  have hBT : T < B0 := by rw [← hB]; exact h.box.lt
  obtain ⟨W0, hW0⟩ : ∃ W0, W0 = w.alloc (.cells #[.int .i64 n, .int .i64 tu] 51) := ⟨_, rfl⟩
  have o0 : Own W0 T G P st := by rw [hW0]; exact h.below (one_below _ _)
  have t0 : Touch T G w W0 := by rw [hW0]; exact Touch.of_below (one_below _ _)
  have k0 : Blk W0 B0 51 #[.int .i64 n, .int .i64 tu] := by rw [hW0]; exact Blk.new_at w _ _ hB.symm
  have O0 := hide (And.intro o0 (And.intro t0 k0))
  have HW := hide hW0
  have HI := hide hi
  have hnP : n ≤ P ∧ n ∈ t.list := by
    unfold hasB at hh
    simp only [Bool.and_eq_true, decide_eq_true_eq] at hh
    obtain ⟨⟨⟨a1, a2⟩, a3⟩, a4⟩ := hh
    have : n ≤ P := by omega
    exact ⟨this, (hi.fil n this).1 a3⟩
  have hnP' := hnP.1
  have HM := hide hnP.2
  clear hW0 o0 t0 k0 hi h hh hnP
  go_enter Try.func20, Try.ntmps20
  go_wp2_with (go_at_call 27; refine Hid.out ?_)
  refine hide ?_
  try rw [← unhide HW]
  refine ((unhide CH) _ (unhide O0).1).mono ?_
  rintro e w1 ⟨rfl, hb1⟩
  have o1 := (unhide O0).1.below hb1
  have k1 := (unhide O0).2.2.below hb1 (unhide O0).2.2.lt
  have b0 := k1.cell 0
  have b1 := k1.cell 1
  simp only [List.getElem?_toArray, List.getElem?_cons_zero, List.getElem?_cons_succ] at b0 b1
  have O1 := hide (And.intro o1 (And.intro ((unhide O0).2.1.trans (Touch.of_below hb1)) k1))
  clear o1 k1 hb1
  obtain ⟨cx, l, r, ht⟩ := find_cx t n (unhide HM)
  have CU := hide (unhang_any T G P st w1 (unhide O1).1 cx n l r (by rw [← ht]; exact (unhide HI).good))
  rw [← ht] at CU
  clear ht
  go_wp2_with (go_at_call 28; refine Hid.out ?_)
  refine hide ?_
  refine (unhide CU).mono ?_
  rintro e w2 ⟨rfl, st3, t3, A, B, o3, tt3, g3, lA, lB, k3⟩
  have bk := (unhide O1).2.2.touch tt3 (by omega) (by omega)
  clear b0 b1
  have b0 := bk.cell 0
  have b1 := bk.cell 1
  simp only [List.getElem?_toArray, List.getElem?_cons_zero, List.getElem?_cons_succ] at b0 b1
  have hc1 : 1 ≤ st3.count := by
    have h1 := k3.count
    have h2 := (unhide HI).count
    rw [lA] at h2
    simp only [List.length_append, List.length_cons] at h2
    omega
  have hc2 : st3.count ≤ 5000 := by
    have h1 := k3.count
    have h2 := (unhide HI).count
    have h3 := (unhide HI).cover
    omega
  have c0 := o3.slice
  have cf := o3.free
  have cc := o3.count
  have fr := o3.nod.free
  have fr2 := o3.ofree
  obtain ⟨d0, d1, d2, d3, d4, d5, d6, d7⟩ := o3.at n hnP'
  obtain ⟨f, hf⟩ : ∃ x, st3.free = x := ⟨_, rfl⟩
  rw [hf] at cf
  have HF := hide hf
  have RES := hide (And.intro o3 (And.intro ((unhide O1).2.1.trans tt3) (drop_inv (tu := tu) (unhide HI) g3 lA lB k3)))
  have LL := hide (And.intro lA lB)
  clear o3 tt3 g3 lA lB k3 bk hf
  go_wp2
  go_region
  go_wp2
  go_ret
  obtain ⟨r1, r2, r3, r4, r5⟩ := unhide RES
  obtain ⟨f1, f2⟩ := clear_facts (w := w) (f := f) (tu := tu) r1 r2 hnP' (unhide HF) hc1
  exact ⟨rfl, _, t3, A, B, f1, f2, r3, (unhide LL).1, (unhide LL).2, r4, r5⟩
end Go.Proofs.Ytihfldjoogaolaa
