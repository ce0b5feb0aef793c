import Derived.Test.YtihfldjoogaolaaTu
namespace Go.Proofs.Ytihfldjoogaolaa
open Go.RowKit

theorem Kept.wide {L L' : List Nat} {a b : St} (h : Kept L a b) (hl : ∀ x, x ∈ L → x ∈ L') : Kept L' a b := ⟨h.key, fun x hx => h.out x (fun e => hx (hl x e)), h.free, h.count⟩

/-- What unhang comes to. -/
def Gone (T G P : Nat) (st : St) (w : World) (n : Nat) (L : List Nat) (w' : World) : Prop :=
  ∃ st' t' A B, Own w' T G P st' ∧ Touch T G w w' ∧ Good P st' t' ∧ L = A ++ n :: B ∧ t'.list = A ++ B ∧ Kept L st st'

set_option maxRecDepth 100000 in
set_option maxHeartbeats 4000000 in
theorem unhang_a (T G P : Nat) (st : St) (w : World) (h : Own w T G P st) (cx : Cx) (n : Nat) (l r X : Tr) (hg : Good P st (cx.plug (.node n l r))) (hX : (l = .nil ∧ X = r) ∨ (r = .nil ∧ X = l)) :
    Calls Try.prog 28 #[.pointer (some ⟨T, 0, none⟩), .int .i64 n] w fun e w' => e = .returned (.tuple #[]) ∧ Gone T G P st w n (cx.plug (.node n l r)).list w' := by
  have hP := h.hP
  have hz : Z P st cx (.node n l r) := (z_top _ _).2 hg.z
  have hn : n ≤ P := hz.bd
  have c0 := h.slice
  obtain ⟨_, _, _, _, d4, d5, d6, d7⟩ := h.at n hn
  rw [hz.sh.2.1] at d5
  rw [hz.sh.2.2.1] at d6
  rw [hz.sh.2.2.2.1] at d7
  rw [show (st.nd n).red = col st n from rfl] at d4
  obtain ⟨q1, q2, q3, A, B, lA, lB⟩ := unhang_one hg hX
  have hup : (st.nd n).up ≤ P := by rw [hz.sh.2.1]; exact hz.par_bd
  have CS := hide (fun (w' : World) (o' : Own w' T G P st) => side_any T G P st w' o' n hn hup)
  rw [sideOf_z hz] at CS
  have hXP : X.root ≤ P := by
    rcases hX with ⟨_, rfl⟩ | ⟨_, rfl⟩
    · exact hz.right.bd
    · exact hz.left.bd
  obtain ⟨u, hu⟩ : ∃ x, cx.par = x := ⟨_, rfl⟩
  obtain ⟨s, hs⟩ : ∃ x, cx.side = x := ⟨_, rfl⟩
  obtain ⟨c, hc⟩ : ∃ x, X.root = x := ⟨_, rfl⟩
  have huP : u ≤ P := by rw [← hu]; exact hz.par_bd
  have CB := hide (fun st' w' (o' : Own w' T G P st') j (hi : BlackInv P st' cx X j) => mendBlack_any T G P st' w' o' cx X j hi)
  rw [hu] at d5
  rw [hs] at CS
  rw [hc] at hXP
  rw [hu, hs, hc] at q1 q2 q3
  rw [hu, hs] at CB
  have HQ := hide (And.intro q1 (And.intro q2 (And.intro q3 (And.intro lA lB))))
  have hO := hide h
  have hcell : (l.root = 0 ∧ r.root = c) ∨ (l.root ≠ 0 ∧ r.root = 0 ∧ l.root = c) := by
    rcases hX with ⟨rfl, rfl⟩ | ⟨rfl, rfl⟩
    · exact Or.inl ⟨rfl, hc⟩
    · by_cases e : X.root = 0
      · exact Or.inl ⟨e, by rw [← hc, e]; rfl⟩
      · exact Or.inr ⟨e, rfl, hc⟩
  clear hX hz hg q1 q2 q3 lA lB hup hu hs hc h
  obtain ⟨lr, hlr⟩ : ∃ x, l.root = x := ⟨_, rfl⟩
  obtain ⟨rr, hrr⟩ : ∃ x, r.root = x := ⟨_, rfl⟩
  rw [hlr] at d6 hcell
  rw [hrr] at d7 hcell
  clear hlr hrr
  cases hb : col st n with
  | false =>
    rw [hb] at d4
    rcases hcell with ⟨e1, e2⟩ | ⟨e1, e2, e3⟩
    · subst e1
      subst e2
      rw [show ((0 : Nat) : Int) = 0 from rfl] at d6
      · skip
        go_enter Try.func28, Try.ntmps28
        go_wp2
        go_quiet (fail)
        go_wp2
        obtain ⟨W0, hW0⟩ : ∃ W0, W0 = w.drewN nq := ⟨_, rfl⟩
        rw [← hW0]
        have o0 : Own W0 T G P st := by rw [hW0]; exact (unhide hO).drew nq
        have t0 : Touch T G w W0 := by rw [hW0]; exact (Touch.refl T G w).drew
        have g0 : W0.cell? ⟨G, n * 8 + 4, none⟩ = some (.bool false) := by rw [hW0]; exact d4
        have g1 : W0.cell? ⟨G, n * 8 + 5, none⟩ = some (.int .i64 u) := by rw [hW0]; exact d5
        have O0 := hide (And.intro o0 t0)
        clear o0 t0 hW0
        go_quiet (first | (go_at_call 35; exact Calls.quiet_of ((unhide CS) _ ((unhide O0).1.drew _))))
        go_wp2_with (go_at_call 34; refine Hid.out ?_)
        refine hide ?_
        refine (join_any T G P st _ ((unhide O0).1.drew _) u s rr huP hXP).mono ?_
        rintro e w1 ⟨rfl, o1, t1⟩
        have O1 := hide (And.intro o1 ((unhide O0).2.drew.trans t1))
        clear o1 t1
        obtain ⟨j, hi⟩ := (unhide HQ).1 hb
        have CM := hide ((unhide CB) _ w1 (unhide O1).1 j hi)
        clear hi
        go_wp2_with (go_at_call 38; refine Hid.out ?_)
        refine hide ?_
        refine (unhide CM).mono ?_
        rintro e w2 ⟨rfl, st2, t2, o2, tt2, g2, l2, k2⟩
        have RES := hide (And.intro o2 (And.intro tt2 (And.intro g2 (And.intro l2 k2))))
        clear o2 tt2 g2 l2 k2
        go_wp2
        go_end0
        obtain ⟨o2, tt2, g2, l2, k2⟩ := unhide RES
        refine ⟨rfl, st2, t2, A, B, o2, (unhide O1).2.trans tt2, g2, (unhide HQ).2.2.2.1, by rw [l2]; exact (unhide HQ).2.2.2.2, (unhide HQ).2.2.1.trans (k2.wide ?_)⟩
        intro x hx
        rw [(unhide HQ).2.2.2.2] at hx
        rw [(unhide HQ).2.2.2.1]
        simp only [List.mem_append, List.mem_cons] at hx ⊢
        rcases hx with e | e
        · exact Or.inl e
        · exact Or.inr (Or.inr e)
    · subst e3
      subst e2
      rw [show ((0 : Nat) : Int) = 0 from rfl] at d7
      · skip
        go_enter Try.func28, Try.ntmps28
        go_wp2
        go_quiet (fail)
        go_wp2
        obtain ⟨W0, hW0⟩ : ∃ W0, W0 = w.drewN nq := ⟨_, rfl⟩
        rw [← hW0]
        have o0 : Own W0 T G P st := by rw [hW0]; exact (unhide hO).drew nq
        have t0 : Touch T G w W0 := by rw [hW0]; exact (Touch.refl T G w).drew
        have g0 : W0.cell? ⟨G, n * 8 + 4, none⟩ = some (.bool false) := by rw [hW0]; exact d4
        have g1 : W0.cell? ⟨G, n * 8 + 5, none⟩ = some (.int .i64 u) := by rw [hW0]; exact d5
        have O0 := hide (And.intro o0 t0)
        clear o0 t0 hW0
        go_quiet (first | (go_at_call 35; exact Calls.quiet_of ((unhide CS) _ ((unhide O0).1.drew _))))
        go_wp2_with (go_at_call 34; refine Hid.out ?_)
        refine hide ?_
        refine (join_any T G P st _ ((unhide O0).1.drew _) u s lr huP hXP).mono ?_
        rintro e w1 ⟨rfl, o1, t1⟩
        have O1 := hide (And.intro o1 ((unhide O0).2.drew.trans t1))
        clear o1 t1
        obtain ⟨j, hi⟩ := (unhide HQ).1 hb
        have CM := hide ((unhide CB) _ w1 (unhide O1).1 j hi)
        clear hi
        go_wp2_with (go_at_call 38; refine Hid.out ?_)
        refine hide ?_
        refine (unhide CM).mono ?_
        rintro e w2 ⟨rfl, st2, t2, o2, tt2, g2, l2, k2⟩
        have RES := hide (And.intro o2 (And.intro tt2 (And.intro g2 (And.intro l2 k2))))
        clear o2 tt2 g2 l2 k2
        go_wp2
        go_end0
        obtain ⟨o2, tt2, g2, l2, k2⟩ := unhide RES
        refine ⟨rfl, st2, t2, A, B, o2, (unhide O1).2.trans tt2, g2, (unhide HQ).2.2.2.1, by rw [l2]; exact (unhide HQ).2.2.2.2, (unhide HQ).2.2.1.trans (k2.wide ?_)⟩
        intro x hx
        rw [(unhide HQ).2.2.2.2] at hx
        rw [(unhide HQ).2.2.2.1]
        simp only [List.mem_append, List.mem_cons] at hx ⊢
        rcases hx with e | e
        · exact Or.inl e
        · exact Or.inr (Or.inr e)
  | true =>
    rw [hb] at d4
    rcases hcell with ⟨e1, e2⟩ | ⟨e1, e2, e3⟩
    · subst e1
      subst e2
      rw [show ((0 : Nat) : Int) = 0 from rfl] at d6
      · skip
        go_enter Try.func28, Try.ntmps28
        go_wp2
        go_quiet (fail)
        go_wp2
        obtain ⟨W0, hW0⟩ : ∃ W0, W0 = w.drewN nq := ⟨_, rfl⟩
        rw [← hW0]
        have o0 : Own W0 T G P st := by rw [hW0]; exact (unhide hO).drew nq
        have t0 : Touch T G w W0 := by rw [hW0]; exact (Touch.refl T G w).drew
        have g0 : W0.cell? ⟨G, n * 8 + 4, none⟩ = some (.bool true) := by rw [hW0]; exact d4
        have g1 : W0.cell? ⟨G, n * 8 + 5, none⟩ = some (.int .i64 u) := by rw [hW0]; exact d5
        have O0 := hide (And.intro o0 t0)
        clear o0 t0 hW0
        go_quiet (first | (go_at_call 35; exact Calls.quiet_of ((unhide CS) _ ((unhide O0).1.drew _))))
        go_wp2_with (go_at_call 34; refine Hid.out ?_)
        refine hide ?_
        refine (join_any T G P st _ ((unhide O0).1.drew _) u s rr huP hXP).mono ?_
        rintro e w1 ⟨rfl, o1, t1⟩
        have O1 := hide (And.intro o1 ((unhide O0).2.drew.trans t1))
        clear o1 t1
        go_wp2
        go_end0
        exact ⟨rfl, _, _, A, B, (unhide O1).1, (unhide O1).2, (unhide HQ).2.1 hb, (unhide HQ).2.2.2.1, (unhide HQ).2.2.2.2, (unhide HQ).2.2.1⟩
    · subst e3
      subst e2
      rw [show ((0 : Nat) : Int) = 0 from rfl] at d7
      · skip
        go_enter Try.func28, Try.ntmps28
        go_wp2
        go_quiet (fail)
        go_wp2
        obtain ⟨W0, hW0⟩ : ∃ W0, W0 = w.drewN nq := ⟨_, rfl⟩
        rw [← hW0]
        have o0 : Own W0 T G P st := by rw [hW0]; exact (unhide hO).drew nq
        have t0 : Touch T G w W0 := by rw [hW0]; exact (Touch.refl T G w).drew
        have g0 : W0.cell? ⟨G, n * 8 + 4, none⟩ = some (.bool true) := by rw [hW0]; exact d4
        have g1 : W0.cell? ⟨G, n * 8 + 5, none⟩ = some (.int .i64 u) := by rw [hW0]; exact d5
        have O0 := hide (And.intro o0 t0)
        clear o0 t0 hW0
        go_quiet (first | (go_at_call 35; exact Calls.quiet_of ((unhide CS) _ ((unhide O0).1.drew _))))
        go_wp2_with (go_at_call 34; refine Hid.out ?_)
        refine hide ?_
        refine (join_any T G P st _ ((unhide O0).1.drew _) u s lr huP hXP).mono ?_
        rintro e w1 ⟨rfl, o1, t1⟩
        have O1 := hide (And.intro o1 ((unhide O0).2.drew.trans t1))
        clear o1 t1
        go_wp2
        go_end0
        exact ⟨rfl, _, _, A, B, (unhide O1).1, (unhide O1).2, (unhide HQ).2.1 hb, (unhide HQ).2.2.2.1, (unhide HQ).2.2.2.2, (unhide HQ).2.2.1⟩
end Go.Proofs.Ytihfldjoogaolaa
