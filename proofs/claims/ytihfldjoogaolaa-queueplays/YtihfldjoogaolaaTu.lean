import Derived.Test.YtihfldjoogaolaaTb
import Derived.Deep.RegionWith
import Derived.Test.YtihfldjoogaolaaTpMath9
namespace Go.Proofs.Ytihfldjoogaolaa
open Go.RowKit

theorem Blk.drewN {w : World} {g : Nat} {t : TypeId} {cs : Array Value} (h : Blk w g t cs) (m : Nat) : Blk (w.drewN m) g t cs := h

set_option maxRecDepth 100000 in
set_option maxHeartbeats 4000000 in
theorem replace_any (T G P : Nat) (st : St) (w : World) (h : Own w T G P st) (cx : Cx) (n m : Nat) (l r : Tr) (hz : Z P st cx (.node n l r)) (mP : m ≤ P) :
    Calls Try.prog 37 #[.pointer (some ⟨T, 0, none⟩), .int .i64 n, .int .i64 m] w fun e w' => e = .returned (.tuple #[]) ∧ Own w' T G P (st.repl n m) ∧ Touch T G w w' := by
  have hP := h.hP
  have hTG := h.ne
  have c0 := h.slice
  have hn : n ≤ P := hz.bd
  have fr := h.nod.free
  obtain ⟨d0, d1, d2, d3, d4, d5, d6, d7⟩ := h.at n hn
  have m4 := (h.at m mP).2.2.2.2.1
  obtain ⟨B, hB⟩ : ∃ B, w.heap.size = B := ⟨_, rfl⟩
  have hBG : G < B := by rw [← hB]; exact h.lt
  have hBT : T < B := by rw [← hB]; exact h.box.lt
  obtain ⟨u, hu⟩ : ∃ x, (st.nd n).up = x := ⟨_, rfl⟩
  obtain ⟨x0, hx0⟩ : ∃ x, (st.nd n).dn false = x := ⟨_, rfl⟩
  obtain ⟨x1, hx1⟩ : ∃ x, (st.nd n).dn true = x := ⟨_, rfl⟩
  obtain ⟨rd, hrd⟩ : ∃ x, (st.nd n).red = x := ⟨_, rfl⟩
  obtain ⟨wh, hwh⟩ : ∃ x, sideOf st n = x := ⟨_, rfl⟩
  rw [hu] at d5
  rw [hx0] at d6
  rw [hx1] at d7
  rw [hrd] at d4
  have huP : u ≤ P := by rw [← hu, hz.sh.2.1]; exact hz.par_bd
  have hx0P : x0 ≤ P := by rw [← hx0, hz.sh.2.2.1]; exact hz.left.bd
  have hx1P : x1 ≤ P := by rw [← hx1, hz.sh.2.2.2.1]; exact hz.right.bd
  have HE := hide (show st.repl n m = (((st.paint m rd).join u wh m).join m false x0).join m true x1 by unfold St.repl; rw [hu, hx0, hx1, hrd, hwh])
  have hup : ((st.paint m rd).nd n).up ≤ P := by rw [(paint_links st m rd n).1, hu]; exact huP
  have hsd : sideOf (st.paint m rd) n = wh := by rw [side_paint, hwh]
  clear hu hx0 hx1 hrd hwh
  go_enter Try.func37, Try.ntmps37
  go_wp2
  obtain ⟨W1, hW1⟩ : ∃ W1, W1 = w.alloc (.cells #[.int .i64 (st.nd n).time, .int .i64 (st.nd n).seq, .int .i64 (st.nd n).turn, .bool (st.nd n).filled, .bool rd, .int .i64 u, .int .i64 x0, .int .i64 x1] 66) := ⟨_, rfl⟩
  rw [← hW1]
  have o1 : Own W1 T G P st := by rw [hW1]; exact h.below (one_below _ _)
  have t1 : Touch T G w W1 := by rw [hW1]; exact Touch.of_below (one_below _ _)
  have k1 : Blk W1 B 66 #[.int .i64 (st.nd n).time, .int .i64 (st.nd n).seq, .int .i64 (st.nd n).turn, .bool (st.nd n).filled, .bool rd, .int .i64 u, .int .i64 x0, .int .i64 x1] := by rw [hW1]; exact Blk.new_at w _ _ hB.symm
  clear hW1 c0 fr d0 d1 d2 d3 d4 d5 d6 d7 m4
  have c0 := o1.slice
  have fr := o1.nod.free
  have m4 := (o1.at m mP).2.2.2.2.1
  have b4 := k1.cell 4
  simp only [List.getElem?_toArray, List.getElem?_cons_zero, List.getElem?_cons_succ] at b4
  have O1 := hide (And.intro o1 (And.intro t1 k1))
  clear o1 t1 k1
  go_region
  go_wp2
  obtain ⟨W2, hW2⟩ : ∃ W2, W2 = (W1.setCell ⟨G, m * 8 + 4, none⟩ (.bool rd)).drew := ⟨_, rfl⟩
  rw [← hW2]
  have o2 : Own W2 T G P (st.paint m rd) := by rw [hW2]; exact ((unhide O1).1.putRed m rd mP).drew1
  have t2 : Touch T G w W2 := by rw [hW2]; exact ((unhide O1).2.1.setG _ _).drew1
  have k2 : Blk W2 B 66 #[.int .i64 (st.nd n).time, .int .i64 (st.nd n).seq, .int .i64 (st.nd n).turn, .bool (st.nd n).filled, .bool rd, .int .i64 u, .int .i64 x0, .int .i64 x1] := by rw [hW2]; exact ((unhide O1).2.2.other (by omega) _ _).drew1
  clear hW2 c0 fr m4 b4
  have b5 := k2.cell 5
  simp only [List.getElem?_toArray, List.getElem?_cons_zero, List.getElem?_cons_succ] at b5
  have O2 := hide (And.intro o2 (And.intro t2 k2))
  have CS := hide (fun (w' : World) (o' : Own w' T G P (st.paint m rd)) => side_any T G P (st.paint m rd) w' o' n hn hup)
  rw [hsd] at CS
  clear o2 t2 k2 hsd hup
  go_region_with (first | (go_at_call 35; refine ((unhide CS) _ (by first | exact (unhide O2).1 | exact (unhide O2).1.drew _ | exact (unhide O2).1.drew1 | exact ((unhide O2).1.drew1).drew _)).mono ?_; rintro e w3 ⟨rfl, m3, rfl⟩) | (go_at_call 34; refine (join_any T G P (st.paint m rd) _ ((unhide O2).1.drew _) u wh m huP mP).mono ?_; rintro e w4 ⟨rfl, o4, t4⟩; have O4 := hide (And.intro o4 (And.intro ((unhide O2).2.1.drew.trans t4) (((unhide O2).2.2.drewN _).touch t4 (by omega) (by omega)))); clear o4 t4))
  all_goals
    have b6 := (unhide O4).2.2.cell 6
    simp only [List.getElem?_toArray, List.getElem?_cons_zero, List.getElem?_cons_succ] at b6
    go_wp2_with (go_at_call 34; refine Hid.out ?_)
    refine hide ?_
    refine (join_any T G P _ _ (unhide O4).1 m false x0 mP hx0P).mono ?_
    rintro e w5 ⟨rfl, o5, t5⟩
    have O5 := hide (And.intro o5 (And.intro ((unhide O4).2.1.trans t5) ((unhide O4).2.2.touch t5 (by omega) (by omega))))
    clear o5 t5
    have b7 := (unhide O5).2.2.cell 7
    simp only [List.getElem?_toArray, List.getElem?_cons_zero, List.getElem?_cons_succ] at b7
    go_wp2_with (go_at_call 34; refine Hid.out ?_)
    refine hide ?_
    refine (join_any T G P _ _ (unhide O5).1 m true x1 mP hx1P).mono ?_
    rintro e w6 ⟨rfl, o6, t6⟩
    have O6 := hide (And.intro o6 t6)
    clear o6 t6
    go_wp2
    go_end0
    rw [unhide HE]
    exact ⟨rfl, (unhide O6).1, (unhide O5).2.1.trans (unhide O6).2⟩
end Go.Proofs.Ytihfldjoogaolaa
