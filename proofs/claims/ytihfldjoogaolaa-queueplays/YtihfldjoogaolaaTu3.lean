import Derived.Test.YtihfldjoogaolaaTu2
namespace Go.Proofs.Ytihfldjoogaolaa
open Go.RowKit

set_option maxRecDepth 100000 in
set_option maxHeartbeats 4000000 in
theorem unhang_b (T G P : Nat) (st : St) (w : World) (h : Own w T G P st) (cx : Cx) (n : Nat) (l r : Tr) (hg : Good P st (cx.plug (.node n l r))) (hl : l ≠ .nil) (hr : r ≠ .nil) :
    Calls Try.prog 28 #[.pointer (some ⟨T, 0, none⟩), .int .i64 n] w fun e w' => e = .returned (.tuple #[]) ∧ Gone T G P st w n (cx.plug (.node n l r)).list w' := by
  have hP := h.hP
  have hz : Z P st cx (.node n l r) := (z_top _ _).2 hg.z
  have hn : n ≤ P := hz.bd
  have c0 := h.slice
  obtain ⟨path, o, R, hfst, hpl⟩ := leftmost r hr
  obtain ⟨hzo, hz1, o0, oP, on, p1, p2, p3, q1, q2, q3, A, B, lA, lB⟩ := unhang_two hg hpl
  obtain ⟨_, _, _, _, d4, d5, d6, d7⟩ := h.at n hn
  rw [hz.sh.2.2.1] at d6
  rw [hz.sh.2.2.2.1] at d7
  have l0 : l.root ≠ 0 := fun e => hl (sh_root_ne hz.sh.2.2.2.2.1 e)
  have r0 : r.root ≠ 0 := fun e => hr (sh_root_ne hz.sh.2.2.2.2.2 e)
  obtain ⟨_, _, _, _, e4, e5, _, e7⟩ := h.at o oP
  rw [hzo.sh.2.1] at e5
  rw [hzo.sh.2.2.2.1] at e7
  rw [show (st.nd o).red = col st o from rfl] at e4
  have hup : (st.nd o).up ≤ P := by rw [hzo.sh.2.1]; exact hzo.par_bd
  have CS := hide (fun (w' : World) (o' : Own w' T G P st) => side_any T G P st w' o' o oP hup)
  rw [sideOf_z hzo] at CS
  have hnx : nextOf cx r = o := by
    unfold nextOf
    cases r with
    | nil => exact absurd rfl hr
    | node p x y => exact hfst 0
  have CN := hide (fun (w' : World) (o' : Own w' T G P st) => next_any T G P st w' o' cx n l r hz)
  rw [hnx] at CN
  have hRP : R.root ≤ P := hzo.right.bd
  have huP : (app path (.fr true n l cx)).par ≤ P := hzo.par_bd
  obtain ⟨u, hu⟩ : ∃ x, (app path (.fr true n l cx)).par = x := ⟨_, rfl⟩
  obtain ⟨s, hs⟩ : ∃ x, (app path (.fr true n l cx)).side = x := ⟨_, rfl⟩
  obtain ⟨c, hc⟩ : ∃ x, R.root = x := ⟨_, rfl⟩
  obtain ⟨lr, hlr⟩ : ∃ x, l.root = x := ⟨_, rfl⟩
  obtain ⟨rr, hrr⟩ : ∃ x, r.root = x := ⟨_, rfl⟩
  rw [hu, hs, hc] at q1 q2 q3 hz1
  rw [hu] at e5 huP p1 p2
  rw [hs] at CS p3
  rw [hc] at hRP e7
  rw [hlr] at d6 l0
  rw [hrr] at d7 r0
  have HQ := hide (And.intro q1 (And.intro q2 (And.intro q3 (And.intro lA lB))))
  have HP := hide (And.intro p1 (And.intro p2 p3))
  have hO := hide h
  have CR := hide (fun (w' : World) (o' : Own w' T G P (st.join u s c)) => replace_any T G P (st.join u s c) w' o' cx n o l _ hz1 oP)
  clear hz hz1 hzo hg q1 q2 q3 lA lB hup hu hs hc h p1 p2 p3 hlr hrr hpl hfst hnx hl hr
  obtain ⟨cb, hb⟩ : ∃ x, col st o = x := ⟨_, rfl⟩
  rw [hb] at e4
  have HB := hide hb
  clear hb
  have on' : ¬ o = n := on
  by_cases heq : u = n
  · have heq' := heq.symm
    subst heq'
    clear heq
    cases cb with
    | false =>
      · skip
        go_enter Try.func28, Try.ntmps28
        go_wp2
        go_quiet (fail)
        go_wp2_with (go_at_call 32; refine ((unhide CN) _ ((unhide hO).drew _)).mono ?_; rintro e w' ⟨rfl, m', rfl⟩)
        obtain ⟨W0, hW0⟩ : ∃ W0, W0 = w.drewN (nq + m') := ⟨_, rfl⟩
        rw [← hW0]
        have x0 : Own W0 T G P st := by rw [hW0]; exact (unhide hO).drew _
        have t0 : Touch T G w W0 := by rw [hW0]; exact (Touch.refl T G w).drew
        have g0 : W0.cell? ⟨G, o * 8 + 4, none⟩ = some (.bool false) := by rw [hW0]; exact e4
        have g1 : W0.cell? ⟨G, o * 8 + 5, none⟩ = some (.int .i64 n) := by rw [hW0]; exact e5
        have O0 := hide (And.intro x0 t0)
        clear x0 t0 hW0
        go_quiet (first | (go_at_call 35; exact Calls.quiet_of ((unhide CS) _ ((unhide O0).1.drew _))))
        go_wp2_with (go_at_call 34; refine Hid.out ?_)
        refine hide ?_
        refine (join_any T G P st _ ((unhide O0).1.drew _) n s c huP hRP).mono ?_
        rintro e w1 ⟨rfl, x1, t1⟩
        have O1 := hide (And.intro x1 ((unhide O0).2.drew.trans t1))
        clear x1 t1
        go_wp2_with (go_at_call 37; refine Hid.out ?_)
        refine hide ?_
        refine ((unhide CR) w1 (unhide O1).1).mono ?_
        rintro e w2 ⟨rfl, x2, t2⟩
        have O2 := hide (And.intro x2 ((unhide O1).2.trans t2))
        clear x2 t2
        obtain ⟨j, hi⟩ := (unhide HQ).1 (unhide HB)
        have CM := hide (mendBlack_any T G P _ w2 (unhide O2).1 (app path (.fr true o l cx)) R j hi)
        rw [(unhide HP).1 (by first | rfl | trivial), (unhide HP).2.2] at CM
        clear hi
        go_wp2_with (go_at_call 38; refine Hid.out ?_)
        refine hide ?_
        refine (unhide CM).mono ?_
        rintro e w3 ⟨rfl, st3, t3, o3, tt3, g3, l3, k3⟩
        have RES := hide (And.intro o3 (And.intro tt3 (And.intro g3 (And.intro l3 k3))))
        clear o3 tt3 g3 l3 k3
        go_wp2
        go_end0
        obtain ⟨o3, tt3, g3, l3, k3⟩ := unhide RES
        refine ⟨rfl, st3, t3, A, B, o3, (unhide O2).2.trans tt3, g3, (unhide HQ).2.2.2.1, by rw [l3]; exact (unhide HQ).2.2.2.2, (unhide HQ).2.2.1.trans (k3.wide ?_)⟩
        intro x hx
        rw [(unhide HQ).2.2.2.2] at hx
        rw [(unhide HQ).2.2.2.1]
        simp only [List.mem_append, List.mem_cons] at hx ⊢
        rcases hx with e | e
        · exact Or.inl e
        · exact Or.inr (Or.inr e)
    | true =>
      · skip
        go_enter Try.func28, Try.ntmps28
        go_wp2
        go_quiet (fail)
        go_wp2_with (go_at_call 32; refine ((unhide CN) _ ((unhide hO).drew _)).mono ?_; rintro e w' ⟨rfl, m', rfl⟩)
        obtain ⟨W0, hW0⟩ : ∃ W0, W0 = w.drewN (nq + m') := ⟨_, rfl⟩
        rw [← hW0]
        have x0 : Own W0 T G P st := by rw [hW0]; exact (unhide hO).drew _
        have t0 : Touch T G w W0 := by rw [hW0]; exact (Touch.refl T G w).drew
        have g0 : W0.cell? ⟨G, o * 8 + 4, none⟩ = some (.bool true) := by rw [hW0]; exact e4
        have g1 : W0.cell? ⟨G, o * 8 + 5, none⟩ = some (.int .i64 n) := by rw [hW0]; exact e5
        have O0 := hide (And.intro x0 t0)
        clear x0 t0 hW0
        go_quiet (first | (go_at_call 35; exact Calls.quiet_of ((unhide CS) _ ((unhide O0).1.drew _))))
        go_wp2_with (go_at_call 34; refine Hid.out ?_)
        refine hide ?_
        refine (join_any T G P st _ ((unhide O0).1.drew _) n s c huP hRP).mono ?_
        rintro e w1 ⟨rfl, x1, t1⟩
        have O1 := hide (And.intro x1 ((unhide O0).2.drew.trans t1))
        clear x1 t1
        go_wp2_with (go_at_call 37; refine Hid.out ?_)
        refine hide ?_
        refine ((unhide CR) w1 (unhide O1).1).mono ?_
        rintro e w2 ⟨rfl, x2, t2⟩
        have O2 := hide (And.intro x2 ((unhide O1).2.trans t2))
        clear x2 t2
        go_wp2
        go_end0
        exact ⟨rfl, _, _, A, B, (unhide O2).1, (unhide O2).2, (unhide HQ).2.1 (unhide HB), (unhide HQ).2.2.2.1, (unhide HQ).2.2.2.2, (unhide HQ).2.2.1⟩
  · cases cb with
    | false =>
      · skip
        go_enter Try.func28, Try.ntmps28
        go_wp2
        go_quiet (fail)
        go_wp2_with (go_at_call 32; refine ((unhide CN) _ ((unhide hO).drew _)).mono ?_; rintro e w' ⟨rfl, m', rfl⟩)
        obtain ⟨W0, hW0⟩ : ∃ W0, W0 = w.drewN (nq + m') := ⟨_, rfl⟩
        rw [← hW0]
        have x0 : Own W0 T G P st := by rw [hW0]; exact (unhide hO).drew _
        have t0 : Touch T G w W0 := by rw [hW0]; exact (Touch.refl T G w).drew
        have g0 : W0.cell? ⟨G, o * 8 + 4, none⟩ = some (.bool false) := by rw [hW0]; exact e4
        have g1 : W0.cell? ⟨G, o * 8 + 5, none⟩ = some (.int .i64 u) := by rw [hW0]; exact e5
        have O0 := hide (And.intro x0 t0)
        clear x0 t0 hW0
        go_quiet (first | (go_at_call 35; exact Calls.quiet_of ((unhide CS) _ ((unhide O0).1.drew _))))
        go_wp2_with (go_at_call 34; refine Hid.out ?_)
        refine hide ?_
        refine (join_any T G P st _ ((unhide O0).1.drew _) u s c huP hRP).mono ?_
        rintro e w1 ⟨rfl, x1, t1⟩
        have O1 := hide (And.intro x1 ((unhide O0).2.drew.trans t1))
        clear x1 t1
        go_wp2_with (go_at_call 37; refine Hid.out ?_)
        refine hide ?_
        refine ((unhide CR) w1 (unhide O1).1).mono ?_
        rintro e w2 ⟨rfl, x2, t2⟩
        have O2 := hide (And.intro x2 ((unhide O1).2.trans t2))
        clear x2 t2
        obtain ⟨j, hi⟩ := (unhide HQ).1 (unhide HB)
        have CM := hide (mendBlack_any T G P _ w2 (unhide O2).1 (app path (.fr true o l cx)) R j hi)
        rw [(unhide HP).2.1 heq, (unhide HP).2.2] at CM
        clear hi
        go_wp2_with (go_at_call 38; refine Hid.out ?_)
        refine hide ?_
        refine (unhide CM).mono ?_
        rintro e w3 ⟨rfl, st3, t3, o3, tt3, g3, l3, k3⟩
        have RES := hide (And.intro o3 (And.intro tt3 (And.intro g3 (And.intro l3 k3))))
        clear o3 tt3 g3 l3 k3
        go_wp2
        go_end0
        obtain ⟨o3, tt3, g3, l3, k3⟩ := unhide RES
        refine ⟨rfl, st3, t3, A, B, o3, (unhide O2).2.trans tt3, g3, (unhide HQ).2.2.2.1, by rw [l3]; exact (unhide HQ).2.2.2.2, (unhide HQ).2.2.1.trans (k3.wide ?_)⟩
        intro x hx
        rw [(unhide HQ).2.2.2.2] at hx
        rw [(unhide HQ).2.2.2.1]
        simp only [List.mem_append, List.mem_cons] at hx ⊢
        rcases hx with e | e
        · exact Or.inl e
        · exact Or.inr (Or.inr e)
    | true =>
      · skip
        go_enter Try.func28, Try.ntmps28
        go_wp2
        go_quiet (fail)
        go_wp2_with (go_at_call 32; refine ((unhide CN) _ ((unhide hO).drew _)).mono ?_; rintro e w' ⟨rfl, m', rfl⟩)
        obtain ⟨W0, hW0⟩ : ∃ W0, W0 = w.drewN (nq + m') := ⟨_, rfl⟩
        rw [← hW0]
        have x0 : Own W0 T G P st := by rw [hW0]; exact (unhide hO).drew _
        have t0 : Touch T G w W0 := by rw [hW0]; exact (Touch.refl T G w).drew
        have g0 : W0.cell? ⟨G, o * 8 + 4, none⟩ = some (.bool true) := by rw [hW0]; exact e4
        have g1 : W0.cell? ⟨G, o * 8 + 5, none⟩ = some (.int .i64 u) := by rw [hW0]; exact e5
        have O0 := hide (And.intro x0 t0)
        clear x0 t0 hW0
        go_quiet (first | (go_at_call 35; exact Calls.quiet_of ((unhide CS) _ ((unhide O0).1.drew _))))
        go_wp2_with (go_at_call 34; refine Hid.out ?_)
        refine hide ?_
        refine (join_any T G P st _ ((unhide O0).1.drew _) u s c huP hRP).mono ?_
        rintro e w1 ⟨rfl, x1, t1⟩
        have O1 := hide (And.intro x1 ((unhide O0).2.drew.trans t1))
        clear x1 t1
        go_wp2_with (go_at_call 37; refine Hid.out ?_)
        refine hide ?_
        refine ((unhide CR) w1 (unhide O1).1).mono ?_
        rintro e w2 ⟨rfl, x2, t2⟩
        have O2 := hide (And.intro x2 ((unhide O1).2.trans t2))
        clear x2 t2
        go_wp2
        go_end0
        exact ⟨rfl, _, _, A, B, (unhide O2).1, (unhide O2).2, (unhide HQ).2.1 (unhide HB), (unhide HQ).2.2.2.1, (unhide HQ).2.2.2.2, (unhide HQ).2.2.1⟩

theorem unhang_any (T G P : Nat) (st : St) (w : World) (h : Own w T G P st) (cx : Cx) (n : Nat) (l r : Tr) (hg : Good P st (cx.plug (.node n l r))) :
    Calls Try.prog 28 #[.pointer (some ⟨T, 0, none⟩), .int .i64 n] w fun e w' => e = .returned (.tuple #[]) ∧ Gone T G P st w n (cx.plug (.node n l r)).list w' := by
  by_cases hl : l = .nil
  · exact unhang_a T G P st w h cx n l r r hg (Or.inl ⟨hl, rfl⟩)
  · by_cases hr : r = .nil
    · exact unhang_a T G P st w h cx n l r l hg (Or.inr ⟨hr, rfl⟩)
    · exact unhang_b T G P st w h cx n l r hg hl hr
end Go.Proofs.Ytihfldjoogaolaa
