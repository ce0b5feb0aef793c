import Derived.Test.YtpkadbjgkoijiaaTw
namespace Go.Proofs.Ytpkadbjgkoijiaa
open Go.RowKit

theorem least_le : ∀ t : Tr, t.least ≤ t.size ∧ t.most ≤ t.size
  | .nil => ⟨Nat.le_refl _, Nat.le_refl _⟩
  | .node p l r => by
    have a := least_le l
    have b := least_le r
    simp only [Tr.least, Tr.most, Tr.size]
    omega
theorem size_list : ∀ t : Tr, t.size = t.list.length
  | .nil => rfl
  | .node p l r => by
    rw [Tr.size, Tr.list, List.length_append, List.length_cons, size_list l, size_list r]; omega

set_option maxHeartbeats 1000000 in
theorem ways_any (T G P : Nat) (st : St) : ∀ (t : Tr) (u : Nat) (w : World), Own w T G P st → Sh st.nd t u → Bd P t → t.size ≤ 5000 →
    Calls Try.prog 32 #[.pointer (some ⟨T, 0, none⟩), .int .i64 t.root] w fun e w' => e = .returned (.tuple #[.int .i64 t.least, .int .i64 t.most]) ∧ ∃ m, w' = w.drewN m
  | .nil, u, w, h, _, _, _ => by
    rw [show ((Tr.root .nil : Nat) : Int) = 0 from rfl, show ((Tr.least .nil : Nat) : Int) = 0 from rfl, show ((Tr.most .nil : Nat) : Int) = 0 from rfl]
    go_enter Try.func32, Try.ntmps32
    go_wp2
    go_ret2
    exact ⟨rfl, 0, rfl⟩
  | .node p l r, u, w, h, hs, hb, hz => by
    have hP := h.hP
    have c0 := h.slice
    obtain ⟨b1, b2, b3⟩ := bd_node.1 hb
    obtain ⟨p0, _, s1, s2, sl, sr⟩ := hs
    have d6 := (h.at p b2).2.2.2.2.2.2.1
    have d7 := (h.at p b2).2.2.2.2.2.2.2
    rw [s1] at d6
    rw [s2] at d7
    have hsz : l.size + r.size + 1 ≤ 5000 := hz
    have la := least_le l
    have ra := least_le r
    have IL := hide (fun (w' : World) (o' : Own w' T G P st) => ways_any T G P st l p w' o' sl b1 (by omega))
    have IR := hide (fun (w' : World) (o' : Own w' T G P st) => ways_any T G P st r p w' o' sr b3 (by omega))
    have hO := hide h
    rw [show (Tr.node p l r).root = p from rfl]
    have e1 : ((Tr.node p l r).least : Int) = min (l.least : Int) (r.least : Int) + 1 := by show ((min l.least r.least + 1 : Nat) : Int) = _; omega
    have e2 : ((Tr.node p l r).most : Int) = max (l.most : Int) (r.most : Int) + 1 := by show ((max l.most r.most + 1 : Nat) : Int) = _; omega
    rw [e1, e2]
    obtain ⟨x1, hx1⟩ : ∃ x, l.least = x := ⟨_, rfl⟩
    obtain ⟨x2, hx2⟩ : ∃ x, l.most = x := ⟨_, rfl⟩
    obtain ⟨x3, hx3⟩ : ∃ x, r.least = x := ⟨_, rfl⟩
    obtain ⟨x4, hx4⟩ : ∃ x, r.most = x := ⟨_, rfl⟩
    rw [hx1, hx2] at IL la
    rw [hx3, hx4] at IR ra
    rw [hx1, hx2, hx3, hx4]
    clear h hb hz sl sr b1 b3 s1 s2 e1 e2 hx1 hx2 hx3 hx4
    go_enter Try.func32, Try.ntmps32
    go_wp2_with (go_at_call 32; refine Hid.out ?_)
    refine hide ?_
    refine ((unhide IL) _ (unhide hO)).mono ?_
    rintro e w1 ⟨rfl, m1, rfl⟩
    go_wp2_with (go_at_call 32; refine Hid.out ?_)
    refine hide ?_
    refine ((unhide IR) _ ((unhide hO).drew _)).mono ?_
    rintro e w1 ⟨rfl, m2, rfl⟩
    go_wp2
    all_goals
      go_ret2
      refine ⟨?_, _, rfl⟩
      have q1 : ∀ a b c d : Int, a = c → b = d → Ending.returned (Value.tuple #[.int .i64 a, .int .i64 b]) = Ending.returned (.tuple #[.int .i64 c, .int .i64 d]) := by rintro a b c d rfl rfl; rfl
      exact q1 _ _ _ _ (by omega) (by omega)

theorem heights_any (T G P : Nat) (st : St) (w : World) (h : Own w T G P st) (t : Tr) (hz : Z P st .top t) (hs : t.size ≤ 5000) :
    Calls Try.prog 25 #[.pointer (some ⟨T, 0, none⟩)] w fun e w' => e = .returned (.tuple #[.int .i64 t.least, .int .i64 t.most]) ∧ ∃ m, w' = w.drewN m := by
  have cr := h.root
  rw [show st.root = t.root from hz.root] at cr
  have IW := hide (ways_any T G P st t 0 w h hz.sh hz.bdt hs)
  clear h hz hs
  go_enter Try.func25, Try.ntmps25
  go_wp2_with (go_at_call 32; refine Hid.out ?_)
  refine hide ?_
  refine (unhide IW).mono ?_
  rintro e w1 ⟨rfl, m1, rfl⟩
  go_wp2
  go_ret2
  exact ⟨rfl, _, rfl⟩
end Go.Proofs.Ytpkadbjgkoijiaa
