import Derived.Test.YtihfldjoogaolaaTf
import Derived.Test.YtihfldjoogaolaaTpMath6
namespace Go.Proofs.Ytihfldjoogaolaa
open Go.RowKit

theorem Z.bdt {P : Nat} {st : St} {cx : Cx} {t : Tr} (h : Z P st cx t) : Bd P t := h.nd.bt
def nextOf (cx : Cx) (r : Tr) : Nat := match r with | .nil => cx.nxt | r => r.fst 0

set_option maxHeartbeats 1000000 in
theorem next_any (T G P : Nat) (st : St) (w : World) (h : Own w T G P st) (cx : Cx) (n : Nat) (l r : Tr) (hz : Z P st cx (.node n l r)) :
    Calls Try.prog 32 #[.pointer (some ⟨T, 0, none⟩), .int .i64 n] w fun e w' => e = .returned (.int .i64 (nextOf cx r)) ∧ ∃ m, w' = w.drewN m := by
  have hP := h.hP
  have c0 := h.slice
  have hn : n ≤ P := hz.bd
  have c1 := (h.at n hn).2.2.2.2.2.2.2
  rw [hz.sh.2.2.2.1] at c1
  cases r with
  | node p a b =>
    have hp : p ≠ 0 := hz.right.sh.1
    have HF := hide (fun m => first_any T G P st (w.drewN m) (h.drew m) (.node p a b) n hz.right.sh hz.right.bdt)
    rw [show (Tr.node p a b).root = p from rfl] at c1 HF
    unfold nextOf
    simp only
    go_enter Try.func32, Try.ntmps32
    go_wp2
    go_step3
    go_wp2_with (go_at_call 31; refine ((unhide HF) 0).mono ?_; rintro e w' ⟨rfl, m, rfl⟩)
    rw [Exit.noGoto_ret]
    go_ret
    exact ⟨rfl, _, rfl⟩
  | nil =>
    rw [show ((Tr.root .nil : Nat) : Int) = 0 from rfl] at c1
    unfold nextOf
    simp only
    obtain ⟨J, hJ⟩ : ∃ J : Nat → Act → World → Prop, J = (fun k a' w' => ∃ (cx' : Cx) (l' r' : Tr) (n' m : Nat), k = cx'.depth ∧ w' = w.drewN m ∧ Z P st cx' (.node n' l' r') ∧ cx'.nxt = cx.nxt ∧ ∃ us : Nat → Value, a' = { tmps := #[.pointer (some ⟨T, 0, none⟩), .int .i64 n', us 2, us 3, .int .i64 0, us 5, us 6, us 7, us 8, us 9, us 10, us 11, us 12, us 13, us 14, us 15, us 16, us 17, us 18, us 19, us 20, us 21, us 22, us 23, us 24, us 25, us 26, us 27, us 28, us 29, us 30, us 31, us 32, us 33, us 34, us 35, us 36, us 37, us 38, us 39], defers := [] }) := ⟨_, rfl⟩
    replace hJ := hide hJ
    go_enter Try.func32, Try.ntmps32
    go_wp2
    refine wp_scope_ghost 0 J rfl ?_ ?_
    · go_wp2
      exact ⟨_, by rw [unhide hJ]; exact ⟨cx, l, .nil, n, 0, rfl, rfl, hz, rfl, frame_ex _ rfl⟩⟩
    · clear c1
      intro k a' w' hj
      rw [unhide hJ] at hj
      obtain ⟨cx', l', r', n', m, rfl, rfl, hz', hx, us, rfl⟩ := hj
      have hn' : n' ≤ P := hz'.bd
      have hu' : (st.nd n').up ≤ P := by rw [hz'.sh.2.1]; exact hz'.par_bd
      have c1 := (h.at n' hn').2.2.2.2.2.1
      have HS := hide (fun m => side_any T G P st (w.drewN m) (h.drew m) n' hn' hu')
      rw [sideOf_z hz'] at HS
      rw [hz'.sh.2.1] at c1
      have HX := hide hx
      clear hx hu'
      cases cx' with
      | top =>
        rw [show sd Cx.top.side = 0 from rfl] at HS
        rw [show ((Cx.top.par : Nat) : Int) = 0 from rfl] at c1
        go_wp2_with (go_at_call 35; refine ((unhide HS) _).mono ?_; rintro e w' ⟨rfl, m', rfl⟩)
        simp only [Exit.jump]
        go_ret
        exact ⟨ret_int (by rw [← unhide HX]; rfl), _, rfl⟩
      | fr s p sib up =>
        cases s
        · rw [show sd (Cx.fr false p sib up).side = 0 from rfl] at HS
          rw [show ((Cx.fr false p sib up).par) = p from rfl] at c1
          go_wp2_with (go_at_call 35; refine ((unhide HS) _).mono ?_; rintro e w' ⟨rfl, m', rfl⟩)
          simp only [Exit.jump]
          go_ret
          exact ⟨ret_int (by rw [← unhide HX]; rfl), _, rfl⟩
        · rw [show sd (Cx.fr true p sib up).side = 1 from rfl] at HS
          rw [show ((Cx.fr true p sib up).par) = p from rfl] at c1
          go_wp2_with (go_at_call 35; refine ((unhide HS) _).mono ?_; rintro e w' ⟨rfl, m', rfl⟩)
          go_step3
          refine ⟨rfl, _, ?_, by rw [unhide hJ]; exact ⟨up, sib, .node n' l' r', p, m + m', rfl, rfl, z_move.2 hz', (unhide HX), frame_ex _ rfl⟩⟩
          simp only [Cx.depth]; omega

theorem two_below (w : World) (a b : Obj) (m : Nat) : Below w.heap.size w (((w.alloc a).alloc b).drewN m) := below_drewN (((Below.refl _ _).alloc (Nat.le_refl _) a).alloc ((Below.refl _ _).alloc (Nat.le_refl _) a).size b) m

theorem ahead_any (t1 s1 t2 s2 : Int) (w : World) :
    Calls Try.prog 33 #[.agg #[.int .i64 t1, .int .i64 s1], .agg #[.int .i64 t2, .int .i64 s2]] w fun e w' => e = .returned (.bool (klt t1 s1 t2 s2)) ∧ Below w.heap.size w w' := by
  unfold klt
  by_cases ht : t1 = t2
  · subst ht
    rw [if_pos rfl]
    cases d : decide (s1 < s2)
    all_goals
      go_enter Try.func33, Try.ntmps33
      go_wp2
      go_ret
      exact ⟨rfl, two_below _ _ _ 0⟩
  · rw [if_neg ht]
    cases d : decide (t1 < t2)
    all_goals
      go_enter Try.func33, Try.ntmps33
      go_wp2
      go_ret
      exact ⟨rfl, two_below _ _ _ 0⟩

theorem one_below (w : World) (a : Obj) : Below w.heap.size w (w.alloc a) := (Below.refl _ _).alloc (Nat.le_refl _) a
theorem handle_any (T G P : Nat) (st : St) (w : World) (h : Own w T G P st) (n : Nat) (hn : n ≤ P) :
    Calls Try.prog 30 #[.pointer (some ⟨T, 0, none⟩), .int .i64 n] w fun e w' => e = .returned (if n = 0 then .tuple #[.agg #[.int .i64 0, .int .i64 0], .bool false] else .tuple #[.agg #[.int .i64 n, .int .i64 (st.nd n).turn], .bool true]) ∧ Below w.heap.size w w' := by
  have hP := h.hP
  have hTl := h.box.lt
  have hGl := h.lt
  have c0 := h.slice
  have c1 := (h.at n hn).2.2.1
  by_cases h0 : n = 0
  · subst h0
    rw [if_pos rfl]
    go_enter Try.func30, Try.ntmps30
    go_wp2
    exact bodyPost_ret (v := .tuple #[.agg #[.int .i64 0, .int .i64 0], .bool false]) (by simp [results, Try.results30, go_sem]) rfl ⟨rfl, one_below _ _⟩
  · rw [if_neg h0]
    go_enter Try.func30, Try.ntmps30
    go_wp2
    refine bodyPost_ret (v := .tuple #[.agg #[.int .i64 n, .int .i64 (st.nd n).turn], .bool true]) (by simp [results, Try.results30, go_sem]) rfl ⟨rfl, ?_⟩
    exact one_below _ _

def hasB (P : Nat) (st : St) (pl tn : Int) : Bool := decide (1 ≤ pl) && decide (pl ≤ P) && (st.nd pl.toNat).filled && decide ((st.nd pl.toNat).turn = tn)
theorem has_any (T G P : Nat) (st : St) (w : World) (h : Own w T G P st) (pl tn : Int) :
    Calls Try.prog 27 #[.pointer (some ⟨T, 0, none⟩), .agg #[.int .i64 pl, .int .i64 tn]] w fun e w' => e = .returned (.bool (hasB P st pl tn)) ∧ Below w.heap.size w w' := by
  have hP := h.hP
  have hTl := h.box.lt
  have hGl := h.lt
  have c0 := h.slice
  unfold hasB
  by_cases h1 : 1 ≤ pl
  · by_cases h2 : pl ≤ P
    · obtain ⟨n, rfl⟩ := Int.eq_ofNat_of_zero_le (show 0 ≤ pl by omega)
      obtain ⟨d0, d1, d2, d3, d4, d5, d6, d7⟩ := h.at n (by omega)
      rw [show ((n : Int)).toNat = n from rfl]
      rw [decide_eq_true h1, decide_eq_true h2]
      obtain ⟨tu, htu⟩ : ∃ x, (st.nd n).turn = x := ⟨_, rfl⟩
      rw [htu] at d2 ⊢
      clear htu
      have hn0 : ¬ n = 0 := by omega
      have hn1 : ¬ P + 1 ≤ n := by omega
      have hn2 : ¬ P < n := by omega
      cases hf : (st.nd n).filled
      all_goals
        rw [hf] at d3
        by_cases ht : tu = tn
        · subst ht
          go_enter Try.func27, Try.ntmps27
          go_wp2
          go_quiet (fail)
          go_wp2
          go_region
          go_wp2
          go_ret
          exact ⟨by simp <;> rfl, below_drewN (two_below _ _ _ 0) _⟩
        · go_enter Try.func27, Try.ntmps27
          go_wp2
          go_quiet (fail)
          go_wp2
          go_region
          go_wp2
          go_ret
          exact ⟨by simp <;> rfl, below_drewN (two_below _ _ _ 0) _⟩
    · rw [decide_eq_false h2]
      have g1 : ¬ pl ≤ 0 := by omega
      have g2 : (P : Int) + 1 ≤ pl := by omega
      go_enter Try.func27, Try.ntmps27
      go_wp2
      go_quiet (fail)
      go_wp2
      go_ret
      exact ⟨by simp, below_drewN (one_below _ _) _⟩
  · rw [decide_eq_false h1]
    have g1 : pl ≤ 0 := by omega
    go_enter Try.func27, Try.ntmps27
    go_wp2
    go_quiet (fail)
    go_wp2
    go_ret
    exact ⟨by simp, below_drewN (one_below _ _) _⟩
end Go.Proofs.Ytihfldjoogaolaa
