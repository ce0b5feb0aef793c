import Derived.Test.YtpkadbjgkoijiaaTy
import Derived.Test.YtpkadbjgkoijiaaScp2
namespace Go.Proofs.Ytpkadbjgkoijiaa
open Go.RowKit

/-- The first place, on the way down, whose time isn't below one. -/
def atD (st : St) (tm : Int) : Tr → Nat → Nat
  | .nil, d => d
  | .node p l r, d => if tm ≤ (st.nd p).time then atD st tm l p else atD st tm r d
theorem atD_find (st : St) (tm : Int) : ∀ (t : Tr) (d : Nat), Srt st t.list → atD st tm t d = (t.list.find? (fun x => decide (tm ≤ (st.nd x).time))).getD d
  | .nil, d, _ => rfl
  | .node p l r, d, hs => by
    have hs' := hs
    unfold Srt at hs'
    rw [Tr.list, List.pairwise_append, List.pairwise_cons] at hs'
    obtain ⟨h1, ⟨h2, h3⟩, h4⟩ := hs'
    rw [atD, Tr.list, List.find?_append, List.find?_cons]
    by_cases c : tm ≤ (st.nd p).time
    · rw [if_pos c, atD_find st tm l p h1]
      simp only [c, decide_true]
      cases List.find? (fun x => decide (tm ≤ (st.nd x).time)) l.list <;> rfl
    · rw [if_neg c, atD_find st tm r d h3]
      have hn : l.list.find? (fun x => decide (tm ≤ (st.nd x).time)) = none := by
        rw [List.find?_eq_none]
        intro x hx
        have := h4 x hx p (by simp)
        unfold kle at this
        rw [klt_not] at this
        simp only [decide_eq_true_eq]
        omega
      rw [hn]
      simp only [c, decide_false, Option.none_or]

set_option maxRecDepth 100000 in
set_option maxHeartbeats 1000000 in
theorem at_any (T G P : Nat) (st : St) (w : World) (h : Own w T G P st) (t : Tr) (hz : Z P st .top t) (tm : Int) :
    Calls Try.prog 7 #[.pointer (some ⟨T, 0, none⟩), .int .i64 tm] w fun e w' => e = .returned (hdl st (atD st tm t 0)) ∧ Below w.heap.size w w' := by
  have hP := h.hP
  have hTl := h.box.lt
  have cr := h.root
  rw [show st.root = t.root from hz.root] at cr
  obtain ⟨B, hB⟩ : ∃ B, w.heap.size = B := ⟨_, rfl⟩
  have hTB : T < B := by rw [← hB]; exact hTl
  have hGB : G < B := by rw [← hB]; exact h.lt
  obtain ⟨W0, hW0⟩ : ∃ W0, W0 = w.alloc (.cells #[.int .i64 0, .int .i64 0] 27) := ⟨_, rfl⟩
  have b0 : Below w.heap.size w W0 := by rw [hW0]; exact one_below _ _
  have O0 := hide (And.intro (h.below b0) (And.intro b0 (show Blk W0 B 27 #[.int .i64 0, .int .i64 0] by rw [hW0]; exact Blk.new_at w _ _ hB.symm)))
  have HW := hide hW0
  clear hW0 b0
  obtain ⟨J, hJ⟩ : ∃ J : Nat → Act → World → Prop, J = (fun k a' w' => ∃ (t' : Tr) (u d m : Nat), k = t'.size ∧ w' = W0.drewN m ∧ Sh st.nd t' u ∧ Bd P t' ∧ d ≤ P ∧ atD st tm t' d = atD st tm t 0 ∧ ∃ us : Nat → Value, a' = { tmps := #[.pointer (some ⟨T, 0, none⟩), .int .i64 tm, us 2, us 3, .pointer (some ⟨B, 0, none⟩), .bool false, .int .i64 d, .int .i64 t'.root, us 8, us 9, us 10, us 11, us 12, us 13, us 14, us 15, us 16, us 17, us 18, us 19, us 20, us 21, us 22, us 23, us 24, us 25, us 26, us 27, us 28, us 29, us 30, us 31, us 32, us 33, us 34, us 35, us 36, us 37, us 38, us 39, us 40, us 41, us 42, us 43, us 44], defers := [] }) := ⟨_, rfl⟩
  replace hJ := hide hJ
  have HZ := hide hz
  clear hz
  go_enter Try.func7, Try.ntmps7
  go_wp2
  refine wp_scope_any 0 J rfl ?_ ?_
  · intro R hR weak
    replace weak := hide weak
    go_wp2
    go_quiet (fail)
    go_wp2
    go_step3
    rename_i hK
    refine hK _ _ ((unhide weak) _ _ (hR t.size _ _ ?_))
    rw [unhide hJ]
    exact ⟨t, 0, 0, _, rfl, by rw [unhide HW], (unhide HZ).sh, (unhide HZ).bdt, Nat.zero_le _, rfl, frame_ex _ rfl⟩
  · intro k a' w' hj
    rw [unhide hJ] at hj
    obtain ⟨t', u, d, m, rfl, rfl, ht', hb', hd, hf, us, rfl⟩ := hj
    cases t' with
    | nil =>
      rw [show ((Tr.root .nil : Nat) : Int) = 0 from rfl]
      have CH := hide (fun (w' : World) (o' : Own w' T G P st) => handle_any T G P st w' o' d hd)
      have HF := hide (show atD st tm .nil d = atD st tm t 0 from hf)
      rw [show atD st tm .nil d = d from rfl] at HF
      clear hf
      by_cases h0 : d = 0
      · subst h0
        rw [if_pos rfl] at CH
        go_wp2_with (go_at_call 16; refine Hid.out ?_)
        refine hide ?_
        refine ((unhide CH) _ ((unhide O0).1.drew _)).mono ?_
        rintro e w2 ⟨rfl, hb2⟩
        have k2 := ((unhide O0).2.2.drewN m).below hb2 ((unhide O0).2.2.drewN m).lt
        have g0 := k2.cell 0
        have g1 := k2.cell 1
        have f0 := k2.free 0
        have f1 := k2.free 1
        simp only [List.getElem?_toArray, List.getElem?_cons_zero, List.getElem?_cons_succ] at g0 g1
        have HB := hide ((below_drewN (unhide O0).2.1 m).trans (hb2.mono (below_drewN (unhide O0).2.1 m).size))
        clear k2 hb2
        go_wp2
        simp only [Exit.jump]
        refine bodyPost_ret (v := .tuple #[.agg #[.int .i64 0, .int .i64 0], .bool false]) (by simp [results, Try.results7, go_sem, g0, g1]) rfl ⟨?_, ?_⟩
        · rw [← unhide HF]; unfold hdl; rw [if_pos rfl]
        · have hb4 : Below B w w2 := by rw [← hB]; exact unhide HB
          try rw [hB]
          exact (hb4.setCell (p := ⟨B, 0, none⟩) (by dsimp only; omega) (.int .i64 0)).setCell (p := ⟨B, 1, none⟩) (by dsimp only; omega) (.int .i64 0)
      · rw [if_neg h0] at CH
        go_wp2_with (go_at_call 16; refine Hid.out ?_)
        refine hide ?_
        refine ((unhide CH) _ ((unhide O0).1.drew _)).mono ?_
        rintro e w2 ⟨rfl, hb2⟩
        have k2 := ((unhide O0).2.2.drewN m).below hb2 ((unhide O0).2.2.drewN m).lt
        have g0 := k2.cell 0
        have g1 := k2.cell 1
        have f0 := k2.free 0
        have f1 := k2.free 1
        simp only [List.getElem?_toArray, List.getElem?_cons_zero, List.getElem?_cons_succ] at g0 g1
        have HB := hide ((below_drewN (unhide O0).2.1 m).trans (hb2.mono (below_drewN (unhide O0).2.1 m).size))
        clear k2 hb2
        go_wp2
        simp only [Exit.jump]
        refine bodyPost_ret (v := .tuple #[.agg #[.int .i64 d, .int .i64 (st.nd d).turn], .bool true]) (by simp [results, Try.results7, go_sem, g0, g1]) rfl ⟨?_, ?_⟩
        · rw [← unhide HF]; unfold hdl; rw [if_neg h0]
        · have hb4 : Below B w w2 := by rw [← hB]; exact unhide HB
          try rw [hB]
          exact (hb4.setCell (p := ⟨B, 0, none⟩) (by dsimp only; omega) (.int .i64 d)).setCell (p := ⟨B, 1, none⟩) (by dsimp only; omega) (.int .i64 (st.nd d).turn)
    | node p l r =>
      rw [show (Tr.node p l r).root = p from rfl]
      obtain ⟨p0, _, s1, s2, sl, sr⟩ := ht'
      obtain ⟨c1, c2, c3⟩ := bd_node.1 hb'
      have c0 := (unhide O0).1.slice
      have d0 := ((unhide O0).1.at p c2).1
      have d6 := ((unhide O0).1.at p c2).2.2.2.2.2.2.1
      have d7 := ((unhide O0).1.at p c2).2.2.2.2.2.2.2
      rw [s1] at d6
      rw [s2] at d7
      have HF := hide hf
      obtain ⟨pt, hpt⟩ : ∃ x, (st.nd p).time = x := ⟨_, rfl⟩
      rw [hpt] at d0
      have HP := hide hpt
      clear hf hpt s1 s2 cr
      by_cases ht : tm ≤ pt
      · go_wp2
        go_step3
        refine ⟨rfl, _, ?_, by rw [unhide hJ]; exact ⟨l, p, p, m, rfl, rfl, sl, c1, c2, by rw [← unhide HF, atD, if_pos (by rw [unhide HP]; exact ht)], frame_ex _ rfl⟩⟩
        simp only [Tr.size]; omega
      · go_wp2
        go_step3
        refine ⟨rfl, _, ?_, by rw [unhide hJ]; exact ⟨r, p, d, m, rfl, rfl, sr, c3, hd, by rw [← unhide HF, atD, if_neg (by rw [unhide HP]; omega)], frame_ex _ rfl⟩⟩
        simp only [Tr.size]; omega
theorem at_nil (w : World) (tm : Int) : Calls Try.prog 7 #[.pointer none, .int .i64 tm] w fun e w' => e = .returned (.tuple #[.agg #[.int .i64 0, .int .i64 0], .bool false]) ∧ Below w.heap.size w w' := by
  go_enter Try.func7, Try.ntmps7
  go_wp2
  go_step3
  go_wp2
  try rw [Exit.noGoto_ret]
  exact bodyPost_ret (v := .tuple #[.agg #[.int .i64 0, .int .i64 0], .bool false]) (by simp [results, Try.results7, go_sem]) rfl ⟨rfl, one_below _ _⟩
end Go.Proofs.Ytpkadbjgkoijiaa
