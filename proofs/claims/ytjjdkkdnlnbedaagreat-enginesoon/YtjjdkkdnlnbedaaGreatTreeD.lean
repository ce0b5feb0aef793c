import Derived.Test.YtjjdkkdnlnbedaaGreatTb
import Derived.Deep.RegionWith
import Derived.Test.YtjjdkkdnlnbedaaGreatTreeM
namespace Go.Proofs.YtjjdkkdnlnbedaaGreat
open Go.RowKit

theorem Blk.drewN {w : World} {g : Nat} {t : TypeId} {cs : Array Value} (h : Blk w g t cs) (m : Nat) : Blk (w.drewN m) g t cs := h

set_option maxRecDepth 100000 in
set_option maxHeartbeats 4000000 in
theorem replace_any (T G P : Nat) (st : St) (w : World) (h : Own w T G P st) (cx : Cx) (n m : Nat) (l r : Tr) (hz : Z P st cx (.node n l r)) (mP : m ≤ P) :
    Calls Tryz.prog 135 #[.pointer (some ⟨T, 0, none⟩), .int .i64 n, .int .i64 m] w fun e w' => e = .returned (.tuple #[]) ∧ Own w' T G P (st.repl n m) ∧ Touch T G w w' := by
  have hP := h.hP
  have hTG := h.ne
  have c0 := h.slice
  have hn : n ≤ P := hz.bd
  have fr := h.nod.free
  obtain ⟨d0, d1, d2, d3, d4, d5, d6, d7⟩ := h.at n hn
  have m4 := (h.at m mP).2.2.2.2.1
  obtain ⟨B, hB⟩ : ∃ B, w.heap.size = B := ⟨_, rfl⟩
  have hBG : G < B := by rw [← hB]; exact h.lt
  have hBT : T < B := by rw [← hB]; exact h.box.lt
  obtain ⟨u, hu⟩ : ∃ x, (st.nd n).up = x := ⟨_, rfl⟩
  obtain ⟨x0, hx0⟩ : ∃ x, (st.nd n).dn false = x := ⟨_, rfl⟩
  obtain ⟨x1, hx1⟩ : ∃ x, (st.nd n).dn true = x := ⟨_, rfl⟩
  obtain ⟨rd, hrd⟩ : ∃ x, (st.nd n).red = x := ⟨_, rfl⟩
  obtain ⟨wh, hwh⟩ : ∃ x, sideOf st n = x := ⟨_, rfl⟩
  rw [hu] at d5
  rw [hx0] at d6
  rw [hx1] at d7
  rw [hrd] at d4
  have huP : u ≤ P := by rw [← hu, hz.sh.2.1]; exact hz.par_bd
  have hx0P : x0 ≤ P := by rw [← hx0, hz.sh.2.2.1]; exact hz.left.bd
  have hx1P : x1 ≤ P := by rw [← hx1, hz.sh.2.2.2.1]; exact hz.right.bd
  have HE := hide (show st.repl n m = (((st.paint m rd).join u wh m).join m false x0).join m true x1 by unfold St.repl; rw [hu, hx0, hx1, hrd, hwh])
  have hup : ((st.paint m rd).nd n).up ≤ P := by rw [(paint_links st m rd n).1, hu]; exact huP
  have hsd : sideOf (st.paint m rd) n = wh := by rw [side_paint, hwh]
  clear hu hx0 hx1 hrd hwh
  go_enter Tryz.func135, Tryz.ntmps135
  go_wp2
  obtain ⟨W1, hW1⟩ : ∃ W1, W1 = w.alloc (.cells #[.int .i64 (st.nd n).time, .int .i64 (st.nd n).seq, .int .i64 (st.nd n).turn, .bool (st.nd n).filled, .bool rd, .int .i64 u, .int .i64 x0, .int .i64 x1] 154) := ⟨_, rfl⟩
  rw [← hW1]
  have o1 : Own W1 T G P st := by rw [hW1]; exact h.below (one_below _ _)
  have t1 : Touch T G w W1 := by rw [hW1]; exact Touch.of_below (one_below _ _)
  have k1 : Blk W1 B 154 #[.int .i64 (st.nd n).time, .int .i64 (st.nd n).seq, .int .i64 (st.nd n).turn, .bool (st.nd n).filled, .bool rd, .int .i64 u, .int .i64 x0, .int .i64 x1] := by rw [hW1]; exact Blk.new_at w _ _ hB.symm
  clear hW1 c0 fr d0 d1 d2 d3 d4 d5 d6 d7 m4
  have c0 := o1.slice
  have fr := o1.nod.free
  have m4 := (o1.at m mP).2.2.2.2.1
  have b4 := k1.cell 4
  simp only [List.getElem?_toArray, List.getElem?_cons_zero, List.getElem?_cons_succ] at b4
  have O1 := hide (And.intro o1 (And.intro t1 k1))
  clear o1 t1 k1
  go_region
  go_wp2
  obtain ⟨W2, hW2⟩ : ∃ W2, W2 = (W1.setCell ⟨G, m * 8 + 4, none⟩ (.bool rd)).drew := ⟨_, rfl⟩
  rw [← hW2]
  have o2 : Own W2 T G P (st.paint m rd) := by rw [hW2]; exact ((unhide O1).1.putRed m rd mP).drew1
  have t2 : Touch T G w W2 := by rw [hW2]; exact ((unhide O1).2.1.setG _ _).drew1
  have k2 : Blk W2 B 154 #[.int .i64 (st.nd n).time, .int .i64 (st.nd n).seq, .int .i64 (st.nd n).turn, .bool (st.nd n).filled, .bool rd, .int .i64 u, .int .i64 x0, .int .i64 x1] := by rw [hW2]; exact ((unhide O1).2.2.other (by omega) _ _).drew1
  clear hW2 c0 fr m4 b4
  have b5 := k2.cell 5
  simp only [List.getElem?_toArray, List.getElem?_cons_zero, List.getElem?_cons_succ] at b5
  have O2 := hide (And.intro o2 (And.intro t2 k2))
  have CS := hide (fun (w' : World) (o' : Own w' T G P (st.paint m rd)) => side_any T G P (st.paint m rd) w' o' n hn hup)
  rw [hsd] at CS
  clear o2 t2 k2 hsd hup
  go_region_with (first | (go_at_call 124; refine ((unhide CS) _ (by first | exact (unhide O2).1 | exact (unhide O2).1.drew _ | exact (unhide O2).1.drew1 | exact ((unhide O2).1.drew1).drew _)).mono ?_; rintro e w3 ⟨rfl, m3, rfl⟩) | (go_at_call 133; refine (join_any T G P (st.paint m rd) _ ((unhide O2).1.drew _) u wh m huP mP).mono ?_; rintro e w4 ⟨rfl, o4, t4⟩; have O4 := hide (And.intro o4 (And.intro ((unhide O2).2.1.drew.trans t4) (((unhide O2).2.2.drewN _).touch t4 (by omega) (by omega)))); clear o4 t4))
  all_goals
    have b6 := (unhide O4).2.2.cell 6
    simp only [List.getElem?_toArray, List.getElem?_cons_zero, List.getElem?_cons_succ] at b6
    go_wp2_with (go_at_call 133; refine Hid.out ?_)
    refine hide ?_
    refine (join_any T G P _ _ (unhide O4).1 m false x0 mP hx0P).mono ?_
    rintro e w5 ⟨rfl, o5, t5⟩
    have O5 := hide (And.intro o5 (And.intro ((unhide O4).2.1.trans t5) ((unhide O4).2.2.touch t5 (by omega) (by omega))))
    clear o5 t5
    have b7 := (unhide O5).2.2.cell 7
    simp only [List.getElem?_toArray, List.getElem?_cons_zero, List.getElem?_cons_succ] at b7
    go_wp2_with (go_at_call 133; refine Hid.out ?_)
    refine hide ?_
    refine (join_any T G P _ _ (unhide O5).1 m true x1 mP hx1P).mono ?_
    rintro e w6 ⟨rfl, o6, t6⟩
    have O6 := hide (And.intro o6 t6)
    clear o6 t6
    go_wp2
    go_end0
    rw [unhide HE]
    exact ⟨rfl, (unhide O6).1, (unhide O5).2.1.trans (unhide O6).2⟩
end Go.Proofs.YtjjdkkdnlnbedaaGreat


namespace Go.Proofs.YtjjdkkdnlnbedaaGreat
open Go.RowKit

theorem Kept.wide {L L' : List Nat} {a b : St} (h : Kept L a b) (hl : ∀ x, x ∈ L → x ∈ L') : Kept L' a b := ⟨h.key, fun x hx => h.out x (fun e => hx (hl x e)), h.free, h.count⟩

/-- What unhang comes to. -/
def Gone (T G P : Nat) (st : St) (w : World) (n : Nat) (L : List Nat) (w' : World) : Prop :=
  ∃ st' t' A B, Own w' T G P st' ∧ Touch T G w w' ∧ Good P st' t' ∧ L = A ++ n :: B ∧ t'.list = A ++ B ∧ Kept L st st'

set_option maxRecDepth 100000 in
set_option maxHeartbeats 4000000 in
theorem unhang_a (T G P : Nat) (st : St) (w : World) (h : Own w T G P st) (cx : Cx) (n : Nat) (l r X : Tr) (hg : Good P st (cx.plug (.node n l r))) (hX : (l = .nil ∧ X = r) ∨ (r = .nil ∧ X = l)) :
    Calls Tryz.prog 131 #[.pointer (some ⟨T, 0, none⟩), .int .i64 n] w fun e w' => e = .returned (.tuple #[]) ∧ Gone T G P st w n (cx.plug (.node n l r)).list w' := by
  have hP := h.hP
  have hz : Z P st cx (.node n l r) := (z_top _ _).2 hg.z
  have hn : n ≤ P := hz.bd
  have c0 := h.slice
  obtain ⟨_, _, _, _, d4, d5, d6, d7⟩ := h.at n hn
  rw [hz.sh.2.1] at d5
  rw [hz.sh.2.2.1] at d6
  rw [hz.sh.2.2.2.1] at d7
  rw [show (st.nd n).red = col st n from rfl] at d4
  obtain ⟨q1, q2, q3, A, B, lA, lB⟩ := unhang_one hg hX
  have hup : (st.nd n).up ≤ P := by rw [hz.sh.2.1]; exact hz.par_bd
  have CS := hide (fun (w' : World) (o' : Own w' T G P st) => side_any T G P st w' o' n hn hup)
  rw [sideOf_z hz] at CS
  have hXP : X.root ≤ P := by
    rcases hX with ⟨_, rfl⟩ | ⟨_, rfl⟩
    · exact hz.right.bd
    · exact hz.left.bd
  obtain ⟨u, hu⟩ : ∃ x, cx.par = x := ⟨_, rfl⟩
  obtain ⟨s, hs⟩ : ∃ x, cx.side = x := ⟨_, rfl⟩
  obtain ⟨c, hc⟩ : ∃ x, X.root = x := ⟨_, rfl⟩
  have huP : u ≤ P := by rw [← hu]; exact hz.par_bd
  have CB := hide (fun st' w' (o' : Own w' T G P st') j (hi : BlackInv P st' cx X j) => mendBlack_any T G P st' w' o' cx X j hi)
  rw [hu] at d5
  rw [hs] at CS
  rw [hc] at hXP
  rw [hu, hs, hc] at q1 q2 q3
  rw [hu, hs] at CB
  have HQ := hide (And.intro q1 (And.intro q2 (And.intro q3 (And.intro lA lB))))
  have hO := hide h
  have hcell : (l.root = 0 ∧ r.root = c) ∨ (l.root ≠ 0 ∧ r.root = 0 ∧ l.root = c) := by
    rcases hX with ⟨rfl, rfl⟩ | ⟨rfl, rfl⟩
    · exact Or.inl ⟨rfl, hc⟩
    · by_cases e : X.root = 0
      · exact Or.inl ⟨e, by rw [← hc, e]; rfl⟩
      · exact Or.inr ⟨e, rfl, hc⟩
  clear hX hz hg q1 q2 q3 lA lB hup hu hs hc h
  obtain ⟨lr, hlr⟩ : ∃ x, l.root = x := ⟨_, rfl⟩
  obtain ⟨rr, hrr⟩ : ∃ x, r.root = x := ⟨_, rfl⟩
  rw [hlr] at d6 hcell
  rw [hrr] at d7 hcell
  clear hlr hrr
  cases hb : col st n with
  | false =>
    rw [hb] at d4
    rcases hcell with ⟨e1, e2⟩ | ⟨e1, e2, e3⟩
    · subst e1
      subst e2
      rw [show ((0 : Nat) : Int) = 0 from rfl] at d6
      · skip
        go_enter Tryz.func131, Tryz.ntmps131
        go_wp2
        go_quiet (fail)
        go_wp2
        obtain ⟨W0, hW0⟩ : ∃ W0, W0 = w.drewN nq := ⟨_, rfl⟩
        rw [← hW0]
        have o0 : Own W0 T G P st := by rw [hW0]; exact (unhide hO).drew nq
        have t0 : Touch T G w W0 := by rw [hW0]; exact (Touch.refl T G w).drew
        have g0 : W0.cell? ⟨G, n * 8 + 4, none⟩ = some (.bool false) := by rw [hW0]; exact d4
        have g1 : W0.cell? ⟨G, n * 8 + 5, none⟩ = some (.int .i64 u) := by rw [hW0]; exact d5
        have O0 := hide (And.intro o0 t0)
        clear o0 t0 hW0
        go_quiet (first | (go_at_call 124; exact Calls.quiet_of ((unhide CS) _ ((unhide O0).1.drew _))))
        go_wp2_with (go_at_call 133; refine Hid.out ?_)
        refine hide ?_
        refine (join_any T G P st _ ((unhide O0).1.drew _) u s rr huP hXP).mono ?_
        rintro e w1 ⟨rfl, o1, t1⟩
        have O1 := hide (And.intro o1 ((unhide O0).2.drew.trans t1))
        clear o1 t1
        obtain ⟨j, hi⟩ := (unhide HQ).1 hb
        have CM := hide ((unhide CB) _ w1 (unhide O1).1 j hi)
        clear hi
        go_wp2_with (go_at_call 136; refine Hid.out ?_)
        refine hide ?_
        refine (unhide CM).mono ?_
        rintro e w2 ⟨rfl, st2, t2, o2, tt2, g2, l2, k2⟩
        have RES := hide (And.intro o2 (And.intro tt2 (And.intro g2 (And.intro l2 k2))))
        clear o2 tt2 g2 l2 k2
        go_wp2
        go_end0
        obtain ⟨o2, tt2, g2, l2, k2⟩ := unhide RES
        refine ⟨rfl, st2, t2, A, B, o2, (unhide O1).2.trans tt2, g2, (unhide HQ).2.2.2.1, by rw [l2]; exact (unhide HQ).2.2.2.2, (unhide HQ).2.2.1.trans (k2.wide ?_)⟩
        intro x hx
        rw [(unhide HQ).2.2.2.2] at hx
        rw [(unhide HQ).2.2.2.1]
        simp only [List.mem_append, List.mem_cons] at hx ⊢
        rcases hx with e | e
        · exact Or.inl e
        · exact Or.inr (Or.inr e)
    · subst e3
      subst e2
      rw [show ((0 : Nat) : Int) = 0 from rfl] at d7
      · skip
        go_enter Tryz.func131, Tryz.ntmps131
        go_wp2
        go_quiet (fail)
        go_wp2
        obtain ⟨W0, hW0⟩ : ∃ W0, W0 = w.drewN nq := ⟨_, rfl⟩
        rw [← hW0]
        have o0 : Own W0 T G P st := by rw [hW0]; exact (unhide hO).drew nq
        have t0 : Touch T G w W0 := by rw [hW0]; exact (Touch.refl T G w).drew
        have g0 : W0.cell? ⟨G, n * 8 + 4, none⟩ = some (.bool false) := by rw [hW0]; exact d4
        have g1 : W0.cell? ⟨G, n * 8 + 5, none⟩ = some (.int .i64 u) := by rw [hW0]; exact d5
        have O0 := hide (And.intro o0 t0)
        clear o0 t0 hW0
        go_quiet (first | (go_at_call 124; exact Calls.quiet_of ((unhide CS) _ ((unhide O0).1.drew _))))
        go_wp2_with (go_at_call 133; refine Hid.out ?_)
        refine hide ?_
        refine (join_any T G P st _ ((unhide O0).1.drew _) u s lr huP hXP).mono ?_
        rintro e w1 ⟨rfl, o1, t1⟩
        have O1 := hide (And.intro o1 ((unhide O0).2.drew.trans t1))
        clear o1 t1
        obtain ⟨j, hi⟩ := (unhide HQ).1 hb
        have CM := hide ((unhide CB) _ w1 (unhide O1).1 j hi)
        clear hi
        go_wp2_with (go_at_call 136; refine Hid.out ?_)
        refine hide ?_
        refine (unhide CM).mono ?_
        rintro e w2 ⟨rfl, st2, t2, o2, tt2, g2, l2, k2⟩
        have RES := hide (And.intro o2 (And.intro tt2 (And.intro g2 (And.intro l2 k2))))
        clear o2 tt2 g2 l2 k2
        go_wp2
        go_end0
        obtain ⟨o2, tt2, g2, l2, k2⟩ := unhide RES
        refine ⟨rfl, st2, t2, A, B, o2, (unhide O1).2.trans tt2, g2, (unhide HQ).2.2.2.1, by rw [l2]; exact (unhide HQ).2.2.2.2, (unhide HQ).2.2.1.trans (k2.wide ?_)⟩
        intro x hx
        rw [(unhide HQ).2.2.2.2] at hx
        rw [(unhide HQ).2.2.2.1]
        simp only [List.mem_append, List.mem_cons] at hx ⊢
        rcases hx with e | e
        · exact Or.inl e
        · exact Or.inr (Or.inr e)
  | true =>
    rw [hb] at d4
    rcases hcell with ⟨e1, e2⟩ | ⟨e1, e2, e3⟩
    · subst e1
      subst e2
      rw [show ((0 : Nat) : Int) = 0 from rfl] at d6
      · skip
        go_enter Tryz.func131, Tryz.ntmps131
        go_wp2
        go_quiet (fail)
        go_wp2
        obtain ⟨W0, hW0⟩ : ∃ W0, W0 = w.drewN nq := ⟨_, rfl⟩
        rw [← hW0]
        have o0 : Own W0 T G P st := by rw [hW0]; exact (unhide hO).drew nq
        have t0 : Touch T G w W0 := by rw [hW0]; exact (Touch.refl T G w).drew
        have g0 : W0.cell? ⟨G, n * 8 + 4, none⟩ = some (.bool true) := by rw [hW0]; exact d4
        have g1 : W0.cell? ⟨G, n * 8 + 5, none⟩ = some (.int .i64 u) := by rw [hW0]; exact d5
        have O0 := hide (And.intro o0 t0)
        clear o0 t0 hW0
        go_quiet (first | (go_at_call 124; exact Calls.quiet_of ((unhide CS) _ ((unhide O0).1.drew _))))
        go_wp2_with (go_at_call 133; refine Hid.out ?_)
        refine hide ?_
        refine (join_any T G P st _ ((unhide O0).1.drew _) u s rr huP hXP).mono ?_
        rintro e w1 ⟨rfl, o1, t1⟩
        have O1 := hide (And.intro o1 ((unhide O0).2.drew.trans t1))
        clear o1 t1
        go_wp2
        go_end0
        exact ⟨rfl, _, _, A, B, (unhide O1).1, (unhide O1).2, (unhide HQ).2.1 hb, (unhide HQ).2.2.2.1, (unhide HQ).2.2.2.2, (unhide HQ).2.2.1⟩
    · subst e3
      subst e2
      rw [show ((0 : Nat) : Int) = 0 from rfl] at d7
      · skip
        go_enter Tryz.func131, Tryz.ntmps131
        go_wp2
        go_quiet (fail)
        go_wp2
        obtain ⟨W0, hW0⟩ : ∃ W0, W0 = w.drewN nq := ⟨_, rfl⟩
        rw [← hW0]
        have o0 : Own W0 T G P st := by rw [hW0]; exact (unhide hO).drew nq
        have t0 : Touch T G w W0 := by rw [hW0]; exact (Touch.refl T G w).drew
        have g0 : W0.cell? ⟨G, n * 8 + 4, none⟩ = some (.bool true) := by rw [hW0]; exact d4
        have g1 : W0.cell? ⟨G, n * 8 + 5, none⟩ = some (.int .i64 u) := by rw [hW0]; exact d5
        have O0 := hide (And.intro o0 t0)
        clear o0 t0 hW0
        go_quiet (first | (go_at_call 124; exact Calls.quiet_of ((unhide CS) _ ((unhide O0).1.drew _))))
        go_wp2_with (go_at_call 133; refine Hid.out ?_)
        refine hide ?_
        refine (join_any T G P st _ ((unhide O0).1.drew _) u s lr huP hXP).mono ?_
        rintro e w1 ⟨rfl, o1, t1⟩
        have O1 := hide (And.intro o1 ((unhide O0).2.drew.trans t1))
        clear o1 t1
        go_wp2
        go_end0
        exact ⟨rfl, _, _, A, B, (unhide O1).1, (unhide O1).2, (unhide HQ).2.1 hb, (unhide HQ).2.2.2.1, (unhide HQ).2.2.2.2, (unhide HQ).2.2.1⟩
end Go.Proofs.YtjjdkkdnlnbedaaGreat


namespace Go.Proofs.YtjjdkkdnlnbedaaGreat
open Go.RowKit

set_option maxRecDepth 100000 in
set_option maxHeartbeats 4000000 in
theorem unhang_b (T G P : Nat) (st : St) (w : World) (h : Own w T G P st) (cx : Cx) (n : Nat) (l r : Tr) (hg : Good P st (cx.plug (.node n l r))) (hl : l ≠ .nil) (hr : r ≠ .nil) :
    Calls Tryz.prog 131 #[.pointer (some ⟨T, 0, none⟩), .int .i64 n] w fun e w' => e = .returned (.tuple #[]) ∧ Gone T G P st w n (cx.plug (.node n l r)).list w' := by
  have hP := h.hP
  have hz : Z P st cx (.node n l r) := (z_top _ _).2 hg.z
  have hn : n ≤ P := hz.bd
  have c0 := h.slice
  obtain ⟨path, o, R, hfst, hpl⟩ := leftmost r hr
  obtain ⟨hzo, hz1, o0, oP, on, p1, p2, p3, q1, q2, q3, A, B, lA, lB⟩ := unhang_two hg hpl
  obtain ⟨_, _, _, _, d4, d5, d6, d7⟩ := h.at n hn
  rw [hz.sh.2.2.1] at d6
  rw [hz.sh.2.2.2.1] at d7
  have l0 : l.root ≠ 0 := fun e => hl (sh_root_ne hz.sh.2.2.2.2.1 e)
  have r0 : r.root ≠ 0 := fun e => hr (sh_root_ne hz.sh.2.2.2.2.2 e)
  obtain ⟨_, _, _, _, e4, e5, _, e7⟩ := h.at o oP
  rw [hzo.sh.2.1] at e5
  rw [hzo.sh.2.2.2.1] at e7
  rw [show (st.nd o).red = col st o from rfl] at e4
  have hup : (st.nd o).up ≤ P := by rw [hzo.sh.2.1]; exact hzo.par_bd
  have CS := hide (fun (w' : World) (o' : Own w' T G P st) => side_any T G P st w' o' o oP hup)
  rw [sideOf_z hzo] at CS
  have hnx : nextOf cx r = o := by
    unfold nextOf
    cases r with
    | nil => exact absurd rfl hr
    | node p x y => exact hfst 0
  have CN := hide (fun (w' : World) (o' : Own w' T G P st) => next_any T G P st w' o' cx n l r hz)
  rw [hnx] at CN
  have hRP : R.root ≤ P := hzo.right.bd
  have huP : (app path (.fr true n l cx)).par ≤ P := hzo.par_bd
  obtain ⟨u, hu⟩ : ∃ x, (app path (.fr true n l cx)).par = x := ⟨_, rfl⟩
  obtain ⟨s, hs⟩ : ∃ x, (app path (.fr true n l cx)).side = x := ⟨_, rfl⟩
  obtain ⟨c, hc⟩ : ∃ x, R.root = x := ⟨_, rfl⟩
  obtain ⟨lr, hlr⟩ : ∃ x, l.root = x := ⟨_, rfl⟩
  obtain ⟨rr, hrr⟩ : ∃ x, r.root = x := ⟨_, rfl⟩
  rw [hu, hs, hc] at q1 q2 q3 hz1
  rw [hu] at e5 huP p1 p2
  rw [hs] at CS p3
  rw [hc] at hRP e7
  rw [hlr] at d6 l0
  rw [hrr] at d7 r0
  have HQ := hide (And.intro q1 (And.intro q2 (And.intro q3 (And.intro lA lB))))
  have HP := hide (And.intro p1 (And.intro p2 p3))
  have hO := hide h
  have CR := hide (fun (w' : World) (o' : Own w' T G P (st.join u s c)) => replace_any T G P (st.join u s c) w' o' cx n o l _ hz1 oP)
  clear hz hz1 hzo hg q1 q2 q3 lA lB hup hu hs hc h p1 p2 p3 hlr hrr hpl hfst hnx hl hr
  obtain ⟨cb, hb⟩ : ∃ x, col st o = x := ⟨_, rfl⟩
  rw [hb] at e4
  have HB := hide hb
  clear hb
  have on' : ¬ o = n := on
  by_cases heq : u = n
  · have heq' := heq.symm
    subst heq'
    clear heq
    cases cb with
    | false =>
      · skip
        go_enter Tryz.func131, Tryz.ntmps131
        go_wp2
        go_quiet (fail)
        go_wp2_with (go_at_call 112; refine ((unhide CN) _ ((unhide hO).drew _)).mono ?_; rintro e w' ⟨rfl, m', rfl⟩)
        obtain ⟨W0, hW0⟩ : ∃ W0, W0 = w.drewN (nq + m') := ⟨_, rfl⟩
        rw [← hW0]
        have x0 : Own W0 T G P st := by rw [hW0]; exact (unhide hO).drew _
        have t0 : Touch T G w W0 := by rw [hW0]; exact (Touch.refl T G w).drew
        have g0 : W0.cell? ⟨G, o * 8 + 4, none⟩ = some (.bool false) := by rw [hW0]; exact e4
        have g1 : W0.cell? ⟨G, o * 8 + 5, none⟩ = some (.int .i64 n) := by rw [hW0]; exact e5
        have O0 := hide (And.intro x0 t0)
        clear x0 t0 hW0
        go_quiet (first | (go_at_call 124; exact Calls.quiet_of ((unhide CS) _ ((unhide O0).1.drew _))))
        go_wp2_with (go_at_call 133; refine Hid.out ?_)
        refine hide ?_
        refine (join_any T G P st _ ((unhide O0).1.drew _) n s c huP hRP).mono ?_
        rintro e w1 ⟨rfl, x1, t1⟩
        have O1 := hide (And.intro x1 ((unhide O0).2.drew.trans t1))
        clear x1 t1
        go_wp2_with (go_at_call 135; refine Hid.out ?_)
        refine hide ?_
        refine ((unhide CR) w1 (unhide O1).1).mono ?_
        rintro e w2 ⟨rfl, x2, t2⟩
        have O2 := hide (And.intro x2 ((unhide O1).2.trans t2))
        clear x2 t2
        obtain ⟨j, hi⟩ := (unhide HQ).1 (unhide HB)
        have CM := hide (mendBlack_any T G P _ w2 (unhide O2).1 (app path (.fr true o l cx)) R j hi)
        rw [(unhide HP).1 (by first | rfl | trivial), (unhide HP).2.2] at CM
        clear hi
        go_wp2_with (go_at_call 136; refine Hid.out ?_)
        refine hide ?_
        refine (unhide CM).mono ?_
        rintro e w3 ⟨rfl, st3, t3, o3, tt3, g3, l3, k3⟩
        have RES := hide (And.intro o3 (And.intro tt3 (And.intro g3 (And.intro l3 k3))))
        clear o3 tt3 g3 l3 k3
        go_wp2
        go_end0
        obtain ⟨o3, tt3, g3, l3, k3⟩ := unhide RES
        refine ⟨rfl, st3, t3, A, B, o3, (unhide O2).2.trans tt3, g3, (unhide HQ).2.2.2.1, by rw [l3]; exact (unhide HQ).2.2.2.2, (unhide HQ).2.2.1.trans (k3.wide ?_)⟩
        intro x hx
        rw [(unhide HQ).2.2.2.2] at hx
        rw [(unhide HQ).2.2.2.1]
        simp only [List.mem_append, List.mem_cons] at hx ⊢
        rcases hx with e | e
        · exact Or.inl e
        · exact Or.inr (Or.inr e)
    | true =>
      · skip
        go_enter Tryz.func131, Tryz.ntmps131
        go_wp2
        go_quiet (fail)
        go_wp2_with (go_at_call 112; refine ((unhide CN) _ ((unhide hO).drew _)).mono ?_; rintro e w' ⟨rfl, m', rfl⟩)
        obtain ⟨W0, hW0⟩ : ∃ W0, W0 = w.drewN (nq + m') := ⟨_, rfl⟩
        rw [← hW0]
        have x0 : Own W0 T G P st := by rw [hW0]; exact (unhide hO).drew _
        have t0 : Touch T G w W0 := by rw [hW0]; exact (Touch.refl T G w).drew
        have g0 : W0.cell? ⟨G, o * 8 + 4, none⟩ = some (.bool true) := by rw [hW0]; exact e4
        have g1 : W0.cell? ⟨G, o * 8 + 5, none⟩ = some (.int .i64 n) := by rw [hW0]; exact e5
        have O0 := hide (And.intro x0 t0)
        clear x0 t0 hW0
        go_quiet (first | (go_at_call 124; exact Calls.quiet_of ((unhide CS) _ ((unhide O0).1.drew _))))
        go_wp2_with (go_at_call 133; refine Hid.out ?_)
        refine hide ?_
        refine (join_any T G P st _ ((unhide O0).1.drew _) n s c huP hRP).mono ?_
        rintro e w1 ⟨rfl, x1, t1⟩
        have O1 := hide (And.intro x1 ((unhide O0).2.drew.trans t1))
        clear x1 t1
        go_wp2_with (go_at_call 135; refine Hid.out ?_)
        refine hide ?_
        refine ((unhide CR) w1 (unhide O1).1).mono ?_
        rintro e w2 ⟨rfl, x2, t2⟩
        have O2 := hide (And.intro x2 ((unhide O1).2.trans t2))
        clear x2 t2
        go_wp2
        go_end0
        exact ⟨rfl, _, _, A, B, (unhide O2).1, (unhide O2).2, (unhide HQ).2.1 (unhide HB), (unhide HQ).2.2.2.1, (unhide HQ).2.2.2.2, (unhide HQ).2.2.1⟩
  · cases cb with
    | false =>
      · skip
        go_enter Tryz.func131, Tryz.ntmps131
        go_wp2
        go_quiet (fail)
        go_wp2_with (go_at_call 112; refine ((unhide CN) _ ((unhide hO).drew _)).mono ?_; rintro e w' ⟨rfl, m', rfl⟩)
        obtain ⟨W0, hW0⟩ : ∃ W0, W0 = w.drewN (nq + m') := ⟨_, rfl⟩
        rw [← hW0]
        have x0 : Own W0 T G P st := by rw [hW0]; exact (unhide hO).drew _
        have t0 : Touch T G w W0 := by rw [hW0]; exact (Touch.refl T G w).drew
        have g0 : W0.cell? ⟨G, o * 8 + 4, none⟩ = some (.bool false) := by rw [hW0]; exact e4
        have g1 : W0.cell? ⟨G, o * 8 + 5, none⟩ = some (.int .i64 u) := by rw [hW0]; exact e5
        have O0 := hide (And.intro x0 t0)
        clear x0 t0 hW0
        go_quiet (first | (go_at_call 124; exact Calls.quiet_of ((unhide CS) _ ((unhide O0).1.drew _))))
        go_wp2_with (go_at_call 133; refine Hid.out ?_)
        refine hide ?_
        refine (join_any T G P st _ ((unhide O0).1.drew _) u s c huP hRP).mono ?_
        rintro e w1 ⟨rfl, x1, t1⟩
        have O1 := hide (And.intro x1 ((unhide O0).2.drew.trans t1))
        clear x1 t1
        go_wp2_with (go_at_call 135; refine Hid.out ?_)
        refine hide ?_
        refine ((unhide CR) w1 (unhide O1).1).mono ?_
        rintro e w2 ⟨rfl, x2, t2⟩
        have O2 := hide (And.intro x2 ((unhide O1).2.trans t2))
        clear x2 t2
        obtain ⟨j, hi⟩ := (unhide HQ).1 (unhide HB)
        have CM := hide (mendBlack_any T G P _ w2 (unhide O2).1 (app path (.fr true o l cx)) R j hi)
        rw [(unhide HP).2.1 heq, (unhide HP).2.2] at CM
        clear hi
        go_wp2_with (go_at_call 136; refine Hid.out ?_)
        refine hide ?_
        refine (unhide CM).mono ?_
        rintro e w3 ⟨rfl, st3, t3, o3, tt3, g3, l3, k3⟩
        have RES := hide (And.intro o3 (And.intro tt3 (And.intro g3 (And.intro l3 k3))))
        clear o3 tt3 g3 l3 k3
        go_wp2
        go_end0
        obtain ⟨o3, tt3, g3, l3, k3⟩ := unhide RES
        refine ⟨rfl, st3, t3, A, B, o3, (unhide O2).2.trans tt3, g3, (unhide HQ).2.2.2.1, by rw [l3]; exact (unhide HQ).2.2.2.2, (unhide HQ).2.2.1.trans (k3.wide ?_)⟩
        intro x hx
        rw [(unhide HQ).2.2.2.2] at hx
        rw [(unhide HQ).2.2.2.1]
        simp only [List.mem_append, List.mem_cons] at hx ⊢
        rcases hx with e | e
        · exact Or.inl e
        · exact Or.inr (Or.inr e)
    | true =>
      · skip
        go_enter Tryz.func131, Tryz.ntmps131
        go_wp2
        go_quiet (fail)
        go_wp2_with (go_at_call 112; refine ((unhide CN) _ ((unhide hO).drew _)).mono ?_; rintro e w' ⟨rfl, m', rfl⟩)
        obtain ⟨W0, hW0⟩ : ∃ W0, W0 = w.drewN (nq + m') := ⟨_, rfl⟩
        rw [← hW0]
        have x0 : Own W0 T G P st := by rw [hW0]; exact (unhide hO).drew _
        have t0 : Touch T G w W0 := by rw [hW0]; exact (Touch.refl T G w).drew
        have g0 : W0.cell? ⟨G, o * 8 + 4, none⟩ = some (.bool true) := by rw [hW0]; exact e4
        have g1 : W0.cell? ⟨G, o * 8 + 5, none⟩ = some (.int .i64 u) := by rw [hW0]; exact e5
        have O0 := hide (And.intro x0 t0)
        clear x0 t0 hW0
        go_quiet (first | (go_at_call 124; exact Calls.quiet_of ((unhide CS) _ ((unhide O0).1.drew _))))
        go_wp2_with (go_at_call 133; refine Hid.out ?_)
        refine hide ?_
        refine (join_any T G P st _ ((unhide O0).1.drew _) u s c huP hRP).mono ?_
        rintro e w1 ⟨rfl, x1, t1⟩
        have O1 := hide (And.intro x1 ((unhide O0).2.drew.trans t1))
        clear x1 t1
        go_wp2_with (go_at_call 135; refine Hid.out ?_)
        refine hide ?_
        refine ((unhide CR) w1 (unhide O1).1).mono ?_
        rintro e w2 ⟨rfl, x2, t2⟩
        have O2 := hide (And.intro x2 ((unhide O1).2.trans t2))
        clear x2 t2
        go_wp2
        go_end0
        exact ⟨rfl, _, _, A, B, (unhide O2).1, (unhide O2).2, (unhide HQ).2.1 (unhide HB), (unhide HQ).2.2.2.1, (unhide HQ).2.2.2.2, (unhide HQ).2.2.1⟩

theorem unhang_any (T G P : Nat) (st : St) (w : World) (h : Own w T G P st) (cx : Cx) (n : Nat) (l r : Tr) (hg : Good P st (cx.plug (.node n l r))) :
    Calls Tryz.prog 131 #[.pointer (some ⟨T, 0, none⟩), .int .i64 n] w fun e w' => e = .returned (.tuple #[]) ∧ Gone T G P st w n (cx.plug (.node n l r)).list w' := by
  by_cases hl : l = .nil
  · exact unhang_a T G P st w h cx n l r r hg (Or.inl ⟨hl, rfl⟩)
  · by_cases hr : r = .nil
    · exact unhang_a T G P st w h cx n l r l hg (Or.inr ⟨hr, rfl⟩)
    · exact unhang_b T G P st w h cx n l r hg hl hr
end Go.Proofs.YtjjdkkdnlnbedaaGreat


namespace Go.Proofs.YtjjdkkdnlnbedaaGreat
open Go.RowKit

theorem clear_facts {w w2 : World} {T G P : Nat} {st : St} {f n : Nat} {tu : Int} (h : Own w2 T G P st) (ht : Touch T G w w2) (hn : n ≤ P) (hf : st.free = f) (hc : 1 ≤ st.count) :
    Own ((((((((((w2.setCell ⟨G, n * 8, none⟩ (.int .i64 0)).setCell ⟨G, n * 8 + 1, none⟩ (.int .i64 0)).setCell ⟨G, n * 8 + 2, none⟩ (.int .i64 tu)).setCell ⟨G, n * 8 + 3, none⟩ (.bool false)).setCell ⟨G, n * 8 + 4, none⟩ (.bool false)).setCell ⟨G, n * 8 + 5, none⟩ (.int .i64 0)).setCell ⟨G, n * 8 + 6, none⟩ (.int .i64 f)).setCell ⟨G, n * 8 + 7, none⟩ (.int .i64 0)).setCell ⟨T, 2, none⟩ (.int .i64 n)).setCell ⟨T, 3, none⟩ (.int .i64 ((st.count : Int) - 1))).drew T G P (st.clear n tu) ∧ Touch T G w (((((((((((w2.setCell ⟨G, n * 8, none⟩ (.int .i64 0)).setCell ⟨G, n * 8 + 1, none⟩ (.int .i64 0)).setCell ⟨G, n * 8 + 2, none⟩ (.int .i64 tu)).setCell ⟨G, n * 8 + 3, none⟩ (.bool false)).setCell ⟨G, n * 8 + 4, none⟩ (.bool false)).setCell ⟨G, n * 8 + 5, none⟩ (.int .i64 0)).setCell ⟨G, n * 8 + 6, none⟩ (.int .i64 f)).setCell ⟨G, n * 8 + 7, none⟩ (.int .i64 0)).setCell ⟨T, 2, none⟩ (.int .i64 n)).setCell ⟨T, 3, none⟩ (.int .i64 ((st.count : Int) - 1))).drew) := by
  refine ⟨?_, ?_⟩
  · have q := (((h.putAll n hn (emptied tu f)).putFree n).putCount (st.count - 1)).drew1
    have e : St.clear st n tu = ⟨setAt st.nd n (emptied tu f), st.root, n, st.count - 1⟩ := by unfold St.clear; rw [hf]
    have e2 : ((st.count - 1 : Nat) : Int) = (st.count : Int) - 1 := by omega
    rw [e2] at q
    rw [e]
    exact q
  · exact ((((((((((ht.setG _ _).setG _ _).setG _ _).setG _ _).setG _ _).setG _ _).setG _ _).setG _ _).setT _ _).setT _ _).drew1

theorem drop_nil (w : World) (a b : Int) :
    Calls Tryz.prog 121 #[.pointer none, .agg #[.int .i64 a, .int .i64 b]] w fun e w' => e = .returned (.int .i64 1) ∧ Below w.heap.size w w' := by
  go_enter Tryz.func121, Tryz.ntmps121
  go_wp2
  go_ret
  exact ⟨rfl, one_below _ _⟩
theorem drop_none (T G P : Nat) (st : St) (w : World) (h : Own w T G P st) (a b : Int) (hh : hasB P st a b = false) :
    Calls Tryz.prog 121 #[.pointer (some ⟨T, 0, none⟩), .agg #[.int .i64 a, .int .i64 b]] w fun e w' => e = .returned (.int .i64 7) ∧ Below w.heap.size w w' := by
  have CH := hide (fun (w' : World) (o' : Own w' T G P st) => has_any T G P st w' o' a b)
  rw [hh] at CH
  have hO := hide (h.below (one_below w (.cells #[.int .i64 a, .int .i64 b] 123)))
  clear h
  go_enter Tryz.func121, Tryz.ntmps121
  go_wp2_with (go_at_call 111; refine ((unhide CH) _ (unhide hO)).mono ?_; rintro e w1 ⟨rfl, hb1⟩)
  go_ret
  exact ⟨rfl, (one_below _ _).trans (hb1.mono (one_below _ _).size)⟩

set_option maxRecDepth 100000 in
set_option maxHeartbeats 4000000 in
theorem drop_any (T G P : Nat) (st : St) (w : World) (h : Own w T G P st) (t : Tr) (fl : List Nat) (hi : Inv P st t fl) (n : Nat) (tu : Int) (hh : hasB P st n tu = true) :
    Calls Tryz.prog 121 #[.pointer (some ⟨T, 0, none⟩), .agg #[.int .i64 n, .int .i64 tu]] w fun e w' => e = .returned (.int .i64 0) ∧
      ∃ st' t' A B, Own w' T G P st' ∧ Touch T G w w' ∧ Inv P st' t' (n :: fl) ∧ t.list = A ++ n :: B ∧ t'.list = A ++ B ∧ (∀ x, x ≠ n → SameK (st'.nd x) (st.nd x)) ∧ (st'.nd n).turn = tu := by
  have CH := hide (fun (w' : World) (o' : Own w' T G P st) => has_any T G P st w' o' n tu)
  rw [hh] at CH
  have hP := h.hP
  have hTG := h.ne
  obtain ⟨B0, hB⟩ : ∃ B, w.heap.size = B := ⟨_, rfl⟩
  have hBG : G < B0 := by rw [← hB]; exact h.lt
  have hBT : T < B0 := by rw [← hB]; exact h.box.lt
  obtain ⟨W0, hW0⟩ : ∃ W0, W0 = w.alloc (.cells #[.int .i64 n, .int .i64 tu] 123) := ⟨_, rfl⟩
  have o0 : Own W0 T G P st := by rw [hW0]; exact h.below (one_below _ _)
  have t0 : Touch T G w W0 := by rw [hW0]; exact Touch.of_below (one_below _ _)
  have k0 : Blk W0 B0 123 #[.int .i64 n, .int .i64 tu] := by rw [hW0]; exact Blk.new_at w _ _ hB.symm
  have O0 := hide (And.intro o0 (And.intro t0 k0))
  have HW := hide hW0
  have HI := hide hi
  have hnP : n ≤ P ∧ n ∈ t.list := by
    unfold hasB at hh
    simp only [Bool.and_eq_true, decide_eq_true_eq] at hh
    obtain ⟨⟨⟨a1, a2⟩, a3⟩, a4⟩ := hh
    have : n ≤ P := by omega
    exact ⟨this, (hi.fil n this).1 a3⟩
  have hnP' := hnP.1
  have HM := hide hnP.2
  clear hW0 o0 t0 k0 hi h hh hnP
  go_enter Tryz.func121, Tryz.ntmps121
  go_wp2_with (go_at_call 111; refine Hid.out ?_)
  refine hide ?_
  try rw [← unhide HW]
  refine ((unhide CH) _ (unhide O0).1).mono ?_
  rintro e w1 ⟨rfl, hb1⟩
  have o1 := (unhide O0).1.below hb1
  have k1 := (unhide O0).2.2.below hb1 (unhide O0).2.2.lt
  have b0 := k1.cell 0
  have b1 := k1.cell 1
  simp only [List.getElem?_toArray, List.getElem?_cons_zero, List.getElem?_cons_succ] at b0 b1
  have O1 := hide (And.intro o1 (And.intro ((unhide O0).2.1.trans (Touch.of_below hb1)) k1))
  clear o1 k1 hb1
  obtain ⟨cx, l, r, ht⟩ := find_cx t n (unhide HM)
  have CU := hide (unhang_any T G P st w1 (unhide O1).1 cx n l r (by rw [← ht]; exact (unhide HI).good))
  rw [← ht] at CU
  clear ht
  go_wp2_with (go_at_call 131; refine Hid.out ?_)
  refine hide ?_
  refine (unhide CU).mono ?_
  rintro e w2 ⟨rfl, st3, t3, A, B, o3, tt3, g3, lA, lB, k3⟩
  have bk := (unhide O1).2.2.touch tt3 (by omega) (by omega)
  clear b0 b1
  have b0 := bk.cell 0
  have b1 := bk.cell 1
  simp only [List.getElem?_toArray, List.getElem?_cons_zero, List.getElem?_cons_succ] at b0 b1
  have hc1 : 1 ≤ st3.count := by
    have h1 := k3.count
    have h2 := (unhide HI).count
    rw [lA] at h2
    simp only [List.length_append, List.length_cons] at h2
    omega
  have hc2 : st3.count ≤ 5000 := by
    have h1 := k3.count
    have h2 := (unhide HI).count
    have h3 := (unhide HI).cover
    omega
  have c0 := o3.slice
  have cf := o3.free
  have cc := o3.count
  have fr := o3.nod.free
  have fr2 := o3.ofree
  obtain ⟨d0, d1, d2, d3, d4, d5, d6, d7⟩ := o3.at n hnP'
  obtain ⟨f, hf⟩ : ∃ x, st3.free = x := ⟨_, rfl⟩
  rw [hf] at cf
  have HF := hide hf
  have RES := hide (And.intro o3 (And.intro ((unhide O1).2.1.trans tt3) (drop_inv (tu := tu) (unhide HI) g3 lA lB k3)))
  have LL := hide (And.intro lA lB)
  clear o3 tt3 g3 lA lB k3 bk hf
  go_wp2
  go_region
  go_wp2
  go_ret
  obtain ⟨r1, r2, r3, r4, r5⟩ := unhide RES
  obtain ⟨f1, f2⟩ := clear_facts (w := w) (f := f) (tu := tu) r1 r2 hnP' (unhide HF) hc1
  exact ⟨rfl, _, t3, A, B, f1, f2, r3, (unhide LL).1, (unhide LL).2, r4, r5⟩
end Go.Proofs.YtjjdkkdnlnbedaaGreat

