import Derived.Test.YtihfldjoogaolaaTd
namespace Go.Proofs.Ytihfldjoogaolaa
open Go.RowKit

theorem len_any (T G P : Nat) (st : St) (w : World) (h : Own w T G P st) :
    Calls Try.prog 24 #[.pointer (some ⟨T, 0, none⟩)] w fun e w' => e = .returned (.int .i64 st.count) ∧ w' = w := by
  have cc := h.count
  go_enter Try.func24, Try.ntmps24
  go_wp2
  go_ret
  exact ⟨rfl, rfl⟩
theorem len_nil (w : World) : Calls Try.prog 24 #[.pointer none] w fun e w' => e = .returned (.int .i64 0) ∧ w' = w := by
  go_enter Try.func24, Try.ntmps24
  go_wp2
  go_ret
  exact ⟨rfl, rfl⟩

/-- The handle of a place, or none. -/
def hdl (st : St) (n : Nat) : Value := if n = 0 then .tuple #[.agg #[.int .i64 0, .int .i64 0], .bool false] else .tuple #[.agg #[.int .i64 n, .int .i64 (st.nd n).turn], .bool true]

set_option maxHeartbeats 1000000 in
theorem firstH_any (T G P : Nat) (st : St) (w : World) (h : Own w T G P st) (t : Tr) (hz : Z P st .top t) :
    Calls Try.prog 22 #[.pointer (some ⟨T, 0, none⟩)] w fun e w' => e = .returned (hdl st (t.fst 0)) ∧ Below w.heap.size w w' := by
  have cr := h.root
  rw [show st.root = t.root from hz.root] at cr
  have hf : t.fst 0 ≤ P := by
    rw [fst_list]
    cases hl : t.list with
    | nil => exact Nat.zero_le _
    | cons a b => exact hz.nd.bt a (by rw [hl]; simp)
  have CF := hide (fun (w' : World) (o' : Own w' T G P st) => first_any T G P st w' o' t 0 hz.sh hz.bdt)
  have CH := hide (fun (w' : World) (o' : Own w' T G P st) => handle_any T G P st w' o' (t.fst 0) hf)
  have hO := hide h
  unfold hdl
  have hTl := h.box.lt
  obtain ⟨B, hB⟩ : ∃ B, w.heap.size = B := ⟨_, rfl⟩
  have hTB : T < B := by rw [← hB]; exact hTl
  have hO0 := hide (And.intro (h.below (one_below w (.cells #[.int .i64 0, .int .i64 0] 51))) (Blk.new_at w 51 #[.int .i64 0, .int .i64 0] hB.symm))
  obtain ⟨n, hn⟩ : ∃ x, t.fst 0 = x := ⟨_, rfl⟩
  rw [hn] at CF CH ⊢
  clear h hz hf hn hO
  by_cases h0 : n = 0
  · subst h0
    rw [if_pos rfl] at CH ⊢
    go_enter Try.func22, Try.ntmps22
    go_wp2_with (first | (go_at_call 31; refine ((unhide CF) _ (unhide hO0).1).mono ?_; rintro e w1 ⟨rfl, m1, rfl⟩) | (go_at_call 30; refine Hid.out ?_))
    refine hide ?_
    refine ((unhide CH) _ ((unhide hO0).1.drew _)).mono ?_
    rintro e w2 ⟨rfl, hb2⟩
    have k2 := ((unhide hO0).2.drewN m1).below hb2 ((unhide hO0).2.drewN m1).lt
    have g0 := k2.cell 0
    have g1 := k2.cell 1
    have f0 := k2.free 0
    have f1 := k2.free 1
    simp only [List.getElem?_toArray, List.getElem?_cons_zero, List.getElem?_cons_succ] at g0 g1
    have HB := hide hb2
    clear k2 hb2
    go_wp2
    refine bodyPost_ret (v := .tuple #[.agg #[.int .i64 0, .int .i64 0], .bool false]) (by simp [results, Try.results22, go_sem, g0, g1]) rfl ⟨rfl, ?_⟩
    have hb0 := (one_below w (.cells #[.int .i64 0, .int .i64 0] 51))
    have hb3 := (below_drewN hb0 m1).trans ((unhide HB).mono (B' := w.heap.size) (below_drewN hb0 m1).size)
    first
      | exact (hb3.setCell (by dsimp only; omega) _).setCell (by dsimp only; omega) _
      | exact hb3
  · rw [if_neg h0] at CH ⊢
    go_enter Try.func22, Try.ntmps22
    go_wp2_with (first | (go_at_call 31; refine ((unhide CF) _ (unhide hO0).1).mono ?_; rintro e w1 ⟨rfl, m1, rfl⟩) | (go_at_call 30; refine Hid.out ?_))
    refine hide ?_
    refine ((unhide CH) _ ((unhide hO0).1.drew _)).mono ?_
    rintro e w2 ⟨rfl, hb2⟩
    have k2 := ((unhide hO0).2.drewN m1).below hb2 ((unhide hO0).2.drewN m1).lt
    have g0 := k2.cell 0
    have g1 := k2.cell 1
    have f0 := k2.free 0
    have f1 := k2.free 1
    simp only [List.getElem?_toArray, List.getElem?_cons_zero, List.getElem?_cons_succ] at g0 g1
    have HB := hide hb2
    clear k2 hb2
    go_wp2
    refine bodyPost_ret (v := .tuple #[.agg #[.int .i64 n, .int .i64 (st.nd n).turn], .bool true]) (by simp [results, Try.results22, go_sem, g0, g1]) rfl ⟨rfl, ?_⟩
    have hb0 := (one_below w (.cells #[.int .i64 0, .int .i64 0] 51))
    have hb3 := (below_drewN hb0 m1).trans ((unhide HB).mono (B' := w.heap.size) (below_drewN hb0 m1).size)
    first
      | exact (hb3.setCell (by dsimp only; omega) _).setCell (by dsimp only; omega) _
      | exact hb3

theorem firstH_nil (w : World) : Calls Try.prog 22 #[.pointer none] w fun e w' => e = .returned (.tuple #[.agg #[.int .i64 0, .int .i64 0], .bool false]) ∧ Below w.heap.size w w' := by
  go_enter Try.func22, Try.ntmps22
  go_wp2
  exact bodyPost_ret (v := .tuple #[.agg #[.int .i64 0, .int .i64 0], .bool false]) (by simp [results, Try.results22, go_sem]) rfl ⟨rfl, one_below _ _⟩

set_option maxHeartbeats 1000000 in
theorem nextH_any (T G P : Nat) (st : St) (w : World) (h : Own w T G P st) (cx : Cx) (n : Nat) (l r : Tr) (hz : Z P st cx (.node n l r)) (tn : Int) (hh : hasB P st n tn = true) :
    Calls Try.prog 23 #[.pointer (some ⟨T, 0, none⟩), .agg #[.int .i64 n, .int .i64 tn]] w fun e w' => e = .returned (hdl st (nextOf cx r)) ∧ Below w.heap.size w w' := by
  have hP := h.hP
  obtain ⟨W0, hW0⟩ : ∃ W0, W0 = (w.alloc (.cells #[.int .i64 n, .int .i64 tn] 51)).alloc (.cells #[.int .i64 0, .int .i64 0] 51) := ⟨_, rfl⟩
  obtain ⟨B, hB⟩ : ∃ B, w.heap.size = B := ⟨_, rfl⟩
  have b0 : Below w.heap.size w W0 := by rw [hW0]; exact two_below _ _ _ 0
  have o0 : Own W0 T G P st := h.below b0
  have k0 : Blk W0 B 51 #[.int .i64 n, .int .i64 tn] := by rw [hW0]; exact (Blk.new_at w _ _ hB.symm).alloc _
  have k1 : Blk W0 (B + 1) 51 #[.int .i64 0, .int .i64 0] := by rw [hW0]; exact Blk.new_at (w.alloc _) _ _ (by simp [hB])
  have HW := hide hW0
  have CH := hide (has_any T G P st W0 o0 n tn)
  rw [hh] at CH
  have hxP : nextOf cx r ≤ P := by
    unfold nextOf
    cases r with
    | nil =>
      have : ∀ cx : Cx, (∀ x ∈ cx.places, x ≤ P) → cx.nxt ≤ P := by
        intro cx
        induction cx with
        | top => intro _; exact Nat.zero_le _
        | fr s p sib up ih =>
          intro hb
          cases s
          · exact hb p (by simp [Cx.places])
          · exact ih (fun x hx => hb x (by simp [Cx.places, hx]))
      exact this cx hz.nd.bc
    | node p a b =>
      show Tr.fst 0 (.node p a b) ≤ P
      rw [fst_list]
      cases hl : (Tr.node p a b).list with
      | nil => exact Nat.zero_le _
      | cons x y => exact hz.nd.bt x (by simp only [Tr.list] at hl ⊢; simp [hl])
  have CN := hide (fun (w' : World) (o' : Own w' T G P st) => next_any T G P st w' o' cx n l r hz)
  have CD := hide (fun (w' : World) (o' : Own w' T G P st) => handle_any T G P st w' o' (nextOf cx r) hxP)
  have O0 := hide (And.intro o0 (And.intro b0 (And.intro k0 k1)))
  have hBG : G < B := by rw [← hB]; exact h.lt
  have hBT : T < B := by rw [← hB]; exact h.box.lt
  unfold hdl
  obtain ⟨x, hx⟩ : ∃ x, nextOf cx r = x := ⟨_, rfl⟩
  rw [hx] at CN CD ⊢
  clear hW0 o0 b0 k0 k1 h hz hh hxP hx
  by_cases h0 : x = 0
  · subst h0
    rw [if_pos rfl] at CD ⊢
    go_enter Try.func23, Try.ntmps23
    go_wp2_with (go_at_call 27; refine Hid.out ?_)
    refine hide ?_
    rw [← unhide HW]
    refine (unhide CH).mono ?_
    rintro e w1 ⟨rfl, hb1⟩
    have q0 := ((unhide O0).2.2.1.below hb1 (unhide O0).2.2.1.lt).cell 0
    simp only [List.getElem?_toArray, List.getElem?_cons_zero] at q0
    have O1 := hide (And.intro ((unhide O0).1.below hb1) (And.intro ((unhide O0).2.1.trans (hb1.mono (unhide O0).2.1.size)) ((unhide O0).2.2.2.below hb1 (unhide O0).2.2.2.lt)))
    clear hb1
    go_wp2_with (first | (go_at_call 32; refine ((unhide CN) _ (unhide O1).1).mono ?_; rintro e w2 ⟨rfl, m2, rfl⟩) | (go_at_call 30; refine Hid.out ?_))
    refine hide ?_
    refine ((unhide CD) _ ((unhide O1).1.drew _)).mono ?_
    rintro e w3 ⟨rfl, hb3⟩
    have k3 := ((unhide O1).2.2.drewN m2).below hb3 ((unhide O1).2.2.drewN m2).lt
    have g0 := k3.cell 0
    have g1 := k3.cell 1
    have f0 := k3.free 0
    have f1 := k3.free 1
    simp only [List.getElem?_toArray, List.getElem?_cons_zero, List.getElem?_cons_succ] at g0 g1
    have HB := hide ((below_drewN (unhide O1).2.1 m2).trans (hb3.mono (below_drewN (unhide O1).2.1 m2).size))
    clear k3 hb3
    go_wp2
    refine bodyPost_ret (v := .tuple #[.agg #[.int .i64 0, .int .i64 0], .bool false]) (by simp [results, Try.results23, go_sem, g0, g1]) rfl ⟨rfl, ?_⟩
    have hb4 : Below B w w3 := by rw [← hB]; exact unhide HB
    try rw [hB]
    exact (hb4.setCell (p := ⟨B + 1, 0, none⟩) (by dsimp only; omega) (.int .i64 0)).setCell (p := ⟨B + 1, 1, none⟩) (by dsimp only; omega) (.int .i64 0)
  · rw [if_neg h0] at CD ⊢
    go_enter Try.func23, Try.ntmps23
    go_wp2_with (go_at_call 27; refine Hid.out ?_)
    refine hide ?_
    rw [← unhide HW]
    refine (unhide CH).mono ?_
    rintro e w1 ⟨rfl, hb1⟩
    have q0 := ((unhide O0).2.2.1.below hb1 (unhide O0).2.2.1.lt).cell 0
    simp only [List.getElem?_toArray, List.getElem?_cons_zero] at q0
    have O1 := hide (And.intro ((unhide O0).1.below hb1) (And.intro ((unhide O0).2.1.trans (hb1.mono (unhide O0).2.1.size)) ((unhide O0).2.2.2.below hb1 (unhide O0).2.2.2.lt)))
    clear hb1
    go_wp2_with (first | (go_at_call 32; refine ((unhide CN) _ (unhide O1).1).mono ?_; rintro e w2 ⟨rfl, m2, rfl⟩) | (go_at_call 30; refine Hid.out ?_))
    refine hide ?_
    refine ((unhide CD) _ ((unhide O1).1.drew _)).mono ?_
    rintro e w3 ⟨rfl, hb3⟩
    have k3 := ((unhide O1).2.2.drewN m2).below hb3 ((unhide O1).2.2.drewN m2).lt
    have g0 := k3.cell 0
    have g1 := k3.cell 1
    have f0 := k3.free 0
    have f1 := k3.free 1
    simp only [List.getElem?_toArray, List.getElem?_cons_zero, List.getElem?_cons_succ] at g0 g1
    have HB := hide ((below_drewN (unhide O1).2.1 m2).trans (hb3.mono (below_drewN (unhide O1).2.1 m2).size))
    clear k3 hb3
    go_wp2
    refine bodyPost_ret (v := .tuple #[.agg #[.int .i64 x, .int .i64 (st.nd x).turn], .bool true]) (by simp [results, Try.results23, go_sem, g0, g1]) rfl ⟨rfl, ?_⟩
    have hb4 : Below B w w3 := by rw [← hB]; exact unhide HB
    try rw [hB]
    exact (hb4.setCell (p := ⟨B + 1, 0, none⟩) (by dsimp only; omega) (.int .i64 x)).setCell (p := ⟨B + 1, 1, none⟩) (by dsimp only; omega) (.int .i64 (st.nd x).turn)
end Go.Proofs.Ytihfldjoogaolaa
