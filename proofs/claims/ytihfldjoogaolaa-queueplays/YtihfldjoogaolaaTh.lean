import Derived.Test.YtihfldjoogaolaaTr2
import Derived.Deep.RegionHeld3
namespace Go.Proofs.Ytihfldjoogaolaa
open Go.RowKit

theorem held4 {W : World} {a : Addr} {v : Value} (h : W.cell? a = some v) : ∀ w', Below W.heap.size W w' → w'.cell? a = some v := fun w' hb => by
  rw [hb.cell (World.block_lt_of_cell? W a h)]; exact h
set_option maxRecDepth 100000 in
set_option maxHeartbeats 4000000 in
theorem hang_any (T G P : Nat) (st : St) (w : World) (h : Own w T G P st) (t : Tr) (n : Nat) (hz : Z P st .top t) (hn : n ≤ P) :
    Calls Try.prog 25 #[.pointer (some ⟨T, 0, none⟩), .int .i64 n] w fun e w' => e = .returned (.tuple #[]) ∧ ∃ cx, cx.plug .nil = t ∧ Path st n cx ∧ Own w' T G P (st.join cx.par cx.side n) ∧ Touch T G w w' := by
  have hP := h.hP
  have c0 := h.slice
  have cr := h.root
  rw [show st.root = t.root from hz.root] at cr
  obtain ⟨J, hJ⟩ : ∃ J : Nat → Act → World → Prop, J = (fun k a' w' => ∃ (cx' : Cx) (t' : Tr), k = t'.size ∧ Below w.heap.size w w' ∧ cx'.plug t' = t ∧ Path st n cx' ∧ ∃ us : Nat → Value, a' = { tmps := #[.pointer (some ⟨T, 0, none⟩), .int .i64 n, us 2, us 3, .int .i64 cx'.par, .int .i64 (sd cx'.side), .int .i64 t'.root, us 7, us 8, us 9, us 10, us 11, us 12, us 13, us 14, us 15, us 16, us 17, us 18, us 19, us 20, us 21, us 22, us 23, us 24, us 25, us 26, us 27, us 28, us 29, us 30, us 31, us 32, us 33, us 34, us 35, us 36, us 37, us 38, us 39, us 40, us 41, us 42, us 43, us 44, us 45], defers := [] }) := ⟨_, rfl⟩
  replace hJ := hide hJ
  go_enter Try.func25, Try.ntmps25
  go_wp2
  refine wp_scope_ghost 0 J rfl ?_ ?_
  · go_quiet (fail)
    go_wp2
    exact ⟨_, by rw [unhide hJ]; exact ⟨.top, t, rfl, below_drewN (Below.refl _ _) _, rfl, trivial, frame_ex _ rfl⟩⟩
  · clear c0 cr
    intro k a' w' hj
    rw [unhide hJ] at hj
    obtain ⟨cx', t', rfl, hb, hpl, hpath, us, rfl⟩ := hj
    have o := h.below hb
    have hz' : Z P st cx' t' := by rw [z_top, hpl]; exact hz
    cases t' with
    | nil =>
      have HO := hide o
      clear o
      rw [show ((Tr.root .nil : Nat) : Int) = 0 from rfl]
      obtain ⟨u, hu⟩ : ∃ x, cx'.par = x := ⟨_, rfl⟩
      obtain ⟨s, hs⟩ : ∃ x, cx'.side = x := ⟨_, rfl⟩
      have huP : u ≤ P := by rw [← hu]; exact hz'.par_bd
      rw [hu, hs]
      have HU := hide (And.intro hu hs)
      clear hu hs
      go_wp2_with (go_at_call 34; refine (join_any T G P st _ (unhide HO) u s n huP hn).mono ?_; rintro e w1 ⟨rfl, o1, t1⟩)
      simp only [Exit.jump]
      go_end0
      refine ⟨rfl, cx', hpl, hpath, ?_, (Touch.of_below hb).trans t1⟩
      rw [(unhide HU).1, (unhide HU).2]
      exact o1
    | node p l2 r2 =>
      have hp : p ≤ P := hz'.bd
      have p0 : p ≠ 0 := hz'.sh.1
      rw [show (Tr.node p l2 r2).root = p from rfl]
      have rT := held4 o.slice
      have rn0 := held4 (o.at n hn).1
      have rn1 := held4 (o.at n hn).2.1
      have rp0 := held4 (o.at p hp).1
      have rp1 := held4 (o.at p hp).2.1
      have HA := hide (fun w => ahead_any (st.nd n).time (st.nd n).seq (st.nd p).time (st.nd p).seq w)
      obtain ⟨a1, h1⟩ : ∃ x, (st.nd n).time = x := ⟨_, rfl⟩
      obtain ⟨a2, h2⟩ : ∃ x, (st.nd n).seq = x := ⟨_, rfl⟩
      obtain ⟨a3, h3⟩ : ∃ x, (st.nd p).time = x := ⟨_, rfl⟩
      obtain ⟨a4, h4⟩ : ∃ x, (st.nd p).seq = x := ⟨_, rfl⟩
      have hkk : kle st n p = klt a1 a2 a3 a4 := by unfold kle; rw [h1, h2, h3, h4]
      rw [h1, h2, h3, h4] at HA
      rw [h1] at rn0
      rw [h2] at rn1
      rw [h3] at rp0
      rw [h4] at rp1
      have HK := hide hkk
      have S0 := Below.refl w'.heap.size w'
      have i1 : (n : Int) < (P : Int) + 1 := by omega
      have i2 : (p : Int) < (P : Int) + 1 := by omega
      have i3 : (0 : Int) ≤ n := by omega
      have i4 : (0 : Int) ≤ p := by omega
      clear h1 h2 h3 h4 hkk
      cases hk : klt a1 a2 a3 a4
      · have hd := held4 ((o.at p hp).2.2.2.2.2.2.2)
        rw [show (st.nd p).dn true = r2.root from hz'.right.shc.2.2.1] at hd
        rw [hk] at HA
        clear o
        go_wp2
        go_region_held3 (fun w'' => Below w'.heap.size w' w'') (first | exact Below.drew (by assumption) | assumption) (first | (go_at_call 33; refine ((unhide HA) _).mono ?_; rintro e w4 ⟨rfl, hb4⟩; have hk4 := Below.trans (by assumption) (hb4.mono (Below.size (by assumption)))))
        go_wp2
        go_step3
        refine ⟨rfl, _, ?_, by rw [unhide hJ]; exact ⟨.fr true p l2 cx', r2, rfl, hb.trans (Below.mono (B := w'.heap.size) (by assumption) hb.size), hpl, ⟨(unhide HK).trans hk, hpath⟩, frame_ex _ rfl⟩⟩
        simp only [Tr.size]; omega
      · have hd := held4 ((o.at p hp).2.2.2.2.2.2.1)
        rw [show (st.nd p).dn false = l2.root from hz'.left.shc.2.2.1] at hd
        rw [hk] at HA
        clear o
        go_wp2
        go_region_held3 (fun w'' => Below w'.heap.size w' w'') (first | exact Below.drew (by assumption) | assumption) (first | (go_at_call 33; refine ((unhide HA) _).mono ?_; rintro e w4 ⟨rfl, hb4⟩; have hk4 := Below.trans (by assumption) (hb4.mono (Below.size (by assumption)))))
        go_wp2
        go_step3
        refine ⟨rfl, _, ?_, by rw [unhide hJ]; exact ⟨.fr false p r2 cx', l2, rfl, hb.trans (Below.mono (B := w'.heap.size) (by assumption) hb.size), hpl, ⟨(unhide HK).trans hk, hpath⟩, frame_ex _ rfl⟩⟩
        simp only [Tr.size]; omega
end Go.Proofs.Ytihfldjoogaolaa
