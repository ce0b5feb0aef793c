import Derived.Test.YtpkadbjgkoijiaaTa
import Derived.Test.YtpkadbjgkoijiaaTpMath11
namespace Go.Proofs.Ytpkadbjgkoijiaa
open Go.RowKit

theorem Touch.low {T G B : Nat} {w a b : World} (hb : Below B w a) (h : Touch T G a b) (hT : B ≤ T) (hG : B ≤ G) (hs : B ≤ a.heap.size) : Below B w b :=
  hb.trans ⟨h.os, h.tape, h.output, h.size, fun k hk => h.block k (Nat.lt_of_lt_of_le hk hs) (by omega) (by omega)⟩

set_option maxRecDepth 100000 in
set_option maxHeartbeats 4000000 in
theorem fixed6 (w : World) : Calls Try.prog 4 #[] w fun e w' => e = .returned (.bool true) ∧ Below w.heap.size w w' := by
  have CN := hide (fun w => new_any 2 (by omega) (by omega) w)
  rw [show ((2 : Nat) : Int) = 2 from rfl] at CN
  go_enter Try.func4, Try.ntmps4
  go_wp2_with (go_at_call 5; refine Hid.out ?_)
  refine hide ?_
  refine ((unhide CN) _).mono ?_
  rintro e w1 ⟨T, G, st, rfl, o1, b1, hT, hG, i1, tz⟩
  have O1 := hide (And.intro o1 (And.intro b1 (And.intro i1 tz)))
  clear o1 b1 i1 tz
  go_wp2_with (go_at_call 10; refine Hid.out ?_)
  refine hide ?_
  rw [show List.range' 1 2 = [1, 2] from rfl] at O1
  have C1 := hide (put_any T G 2 st w1 (unhide O1).1 .nil [2] 1 (unhide O1).2.2.1 5 1 (by rw [(unhide O1).2.2.2]; omega) (by rw [(unhide O1).2.2.2]; omega))
  refine (unhide C1).mono ?_
  rintro e w2 ⟨rfl, st2, t2, pre, post, o2, tt2, i2, l2, l2', q1, q2, k2, k2'⟩
  have hv : (st.nd 1).turn = 0 := (unhide O1).2.2.2 1
  obtain ⟨hp, hq⟩ : pre = [] ∧ post = [] := by simpa [Tr.list] using l2'.symm
  subst hp; subst hq
  have i2f := i2
  have tz2 : (st2.nd 2).turn = 0 := by rw [(k2' 2 (by omega)).2.2.1]; exact (unhide O1).2.2.2 2
  have O2 := hide (And.intro o2 (And.intro ((unhide O1).2.1.trans (tt2 |> fun t => ⟨t.os, t.tape, t.output, t.size, fun k hk => t.block k (Nat.lt_of_lt_of_le hk (unhide O1).2.1.size) (by omega) (by omega)⟩)) (And.intro i2 (And.intro l2 k2))))
  clear o2 tt2 i2 l2 l2' q1 q2 k2 k2' i2f
  go_wp2_with (go_at_call 10; refine Hid.out ?_)
  refine hide ?_
  obtain ⟨A0, hA0⟩ : ∃ x, w2.heap.size = x := ⟨_, rfl⟩
  have aT : T < A0 := by rw [← hA0]; exact (unhide O2).1.box.lt
  have aG : G < A0 := by rw [← hA0]; exact (unhide O2).1.lt
  have C3 := hide (put_any T G 2 st2 _ ((unhide O2).1.below (one_below w2 (.cells #[.int .i64 1, .int .i64 1] 27))) t2 [] 2 (unhide O2).2.2.1 3 2 (by rw [tz2]; omega) (by rw [tz2]; omega))
  refine (unhide C3).mono ?_
  rintro e w3 ⟨rfl, st3, t3, pre, post, o3, tt3, i3, l3, l3', q1, q2, k3, k3'⟩
  have ka := (Blk.new_at w2 27 #[.int .i64 1, .int .i64 1] hA0.symm).touch tt3 (by omega) (by omega)
  have hl3 : t3.list = [2, 1] := by
    have hk : kle st3 2 1 = true := by
      unfold kle
      have e1 := k3' 1 (by omega)
      have e2 := (unhide O2).2.2.2.2
      rw [k3.1, k3.2.1, e1.1, e1.2.1, e2.1, e2.2.1]; rfl
    rw [(unhide O2).2.2.2.1] at l3'
    cases pre with
    | nil => simp at l3'; rw [l3, ← l3']; rfl
    | cons x xs =>
      simp only [List.nil_append, List.cons_append, List.cons.injEq] at l3'
      obtain ⟨rfl, _⟩ := l3'
      have := q1 1 (by simp)
      rw [hk] at this; cases this
  have tu1 : (st3.nd 1).turn = 1 := by rw [(k3' 1 (by omega)).2.2.1, (unhide O2).2.2.2.2.2.2.1, hv]; rfl
  have tu2 : (st3.nd 2).turn = 1 := by rw [k3.2.2.1, tz2]; rfl
  have O3 := hide (And.intro o3 (And.intro (Touch.low ((unhide O2).2.1.trans ((one_below w2 (.cells #[.int .i64 1, .int .i64 1] 27)).mono (unhide O2).2.1.size)) tt3 hT hG (Nat.le_trans (unhide O2).2.1.size (one_below _ _).size)) (And.intro i3 (And.intro hl3 ka))))
  clear o3 tt3 i3 l3 l3' q1 q2 k3 k3' hl3 ka
  go_wp2_with (go_at_call 10; refine Hid.out ?_)
  refine hide ?_
  obtain ⟨B0, hB0⟩ : ∃ x, w3.heap.size = x := ⟨_, rfl⟩
  have bA : A0 < B0 := by rw [← hB0]; exact (unhide O3).2.2.2.2.lt
  have hf3 : st3.free = 0 := (unhide O3).2.2.1.chain
  have b4 := one_below w3 (.cells #[.int .i64 2, .int .i64 1] 27)
  have C4 := hide (put_full T G 2 st3 _ ((unhide O3).1.below b4) hf3 0 0)
  have kb4 := Blk.new_at w3 27 #[.int .i64 2, .int .i64 1] hB0.symm
  have ka4 := (unhide O3).2.2.2.2.alloc (.cells #[.int .i64 2, .int .i64 1] 27)
  have O4 := hide (And.intro ((unhide O3).1.below b4) (And.intro ((unhide O3).2.1.trans (b4.mono (unhide O3).2.1.size)) (And.intro ka4 kb4)))
  clear b4 kb4 ka4
  refine (unhide C4).mono ?_
  rintro e w5 ⟨rfl, b5⟩
  have O5 := hide (And.intro ((unhide O4).1.below b5) (And.intro ((unhide O4).2.1.trans (b5.mono (unhide O4).2.1.size)) (And.intro ((unhide O4).2.2.1.below b5 (unhide O4).2.2.1.lt) ((unhide O4).2.2.2.below b5 (unhide O4).2.2.2.lt))))
  clear b5
  go_wp2_with (go_at_call 6; refine Hid.out ?_)
  refine hide ?_
  have b6 := one_below w5 (.cells #[.int .i64 0, .int .i64 0] 27)
  have O6 := hide (And.intro ((unhide O5).1.below b6) (And.intro ((unhide O5).2.1.trans (b6.mono (unhide O5).2.1.size)) (And.intro ((unhide O5).2.2.1.below b6 (unhide O5).2.2.1.lt) ((unhide O5).2.2.2.below b6 (unhide O5).2.2.2.lt))))
  clear b6
  have C6 := hide (firstH_any T G 2 st3 _ (unhide O6).1 t3 (unhide O3).2.2.1.good.z)
  rw [show t3.fst 0 = 2 from by rw [fst_list, (unhide O3).2.2.2.1]; rfl, show hdl st3 2 = .tuple #[.agg #[.int .i64 2, .int .i64 1], .bool true] from by unfold hdl; rw [if_neg (by omega), tu2]; rfl] at C6
  refine (unhide C6).mono ?_
  rintro e w7 ⟨rfl, b7⟩
  have O7 := hide (And.intro ((unhide O6).1.below b7) (And.intro ((unhide O6).2.1.trans (b7.mono (unhide O6).2.1.size)) (And.intro ((unhide O6).2.2.1.below b7 (unhide O6).2.2.1.lt) ((unhide O6).2.2.2.below b7 (unhide O6).2.2.2.lt))))
  clear b7
  go_wp2_with (go_at_call 14; refine Hid.out ?_)
  refine hide ?_
  obtain ⟨X0, hX0⟩ : ∃ x, w7.heap.size = x := ⟨_, rfl⟩
  have xB : B0 < X0 := by rw [← hX0]; exact (unhide O7).2.2.2.lt
  obtain ⟨cx, l, r, hcx⟩ := find_cx t3 2 (by rw [(unhide O3).2.2.2.1]; simp)
  have hz3 : Z 2 st3 cx (.node 2 l r) := by rw [z_top, ← hcx]; exact (unhide O3).2.2.1.good.z
  have hnx : nextOf cx r = 1 := by
    rw [nextOf_head]
    have hl := (unhide O3).2.2.2.1
    have hnd := (unhide O3).2.2.1.good.z.nd.nt
    rw [hcx, plug_pp, show cx.pre ++ ((Tr.node 2 l r).list ++ cx.post) = (cx.pre ++ l.list) ++ 2 :: (r.list ++ cx.post) by simp [Tr.list]] at hl
    have := (split_unique (A' := []) (B' := [1]) hl (by rw [hl]; simp)).2
    rw [this]; rfl
  have hh3 : hasB 2 st3 2 1 = true := by rw [hasB_iff (unhide O3).2.2.1]; exact ⟨by omega, by rw [(unhide O3).2.2.2.1]; simp, tu2⟩
  have b8 := one_below w7 (.cells #[.int .i64 2, .int .i64 1] 27)
  have O8 := hide (And.intro ((unhide O7).1.below b8) (And.intro ((unhide O7).2.1.trans (b8.mono (unhide O7).2.1.size)) (And.intro ((unhide O7).2.2.1.below b8 (unhide O7).2.2.1.lt) (And.intro ((unhide O7).2.2.2.below b8 (unhide O7).2.2.2.lt) (Blk.new_at w7 27 #[.int .i64 2, .int .i64 1] hX0.symm)))))
  clear b8
  have C8 := hide (nextH_any T G 2 st3 _ (unhide O8).1 cx 2 l r hz3 1 hh3)
  rw [hnx, show hdl st3 1 = .tuple #[.agg #[.int .i64 1, .int .i64 1], .bool true] from by unfold hdl; rw [if_neg (by omega), tu1]; rfl] at C8
  clear hcx hz3 hnx
  refine (unhide C8).mono ?_
  rintro e w9 ⟨rfl, b9⟩
  have O9 := hide (And.intro ((unhide O8).1.below b9) (And.intro ((unhide O8).2.1.trans (b9.mono (unhide O8).2.1.size)) (And.intro ((unhide O8).2.2.1.below b9 (unhide O8).2.2.1.lt) (And.intro ((unhide O8).2.2.2.1.below b9 (unhide O8).2.2.2.1.lt) ((unhide O8).2.2.2.2.below b9 (unhide O8).2.2.2.2.lt)))))
  clear b9
  obtain ⟨Y0, hY0⟩ : ∃ x, w9.heap.size = x := ⟨_, rfl⟩
  have yX : X0 < Y0 := by rw [← hY0]; exact (unhide O9).2.2.2.2.lt
  have yB : B0 < Y0 := by omega
  have g0 := (unhide O9).2.2.2.1.cell 0
  have g1 := (unhide O9).2.2.2.1.cell 1
  simp only [List.getElem?_toArray, List.getElem?_cons_zero, List.getElem?_cons_succ] at g0 g1
  go_wp2_with (go_at_call 8; refine Hid.out ?_)
  refine hide ?_
  clear g0 g1
  have b10 := one_below w9 (.cells #[.int .i64 1, .int .i64 1] 27)
  have O10 := hide (And.intro ((unhide O9).1.below b10) (And.intro ((unhide O9).2.1.trans (b10.mono (unhide O9).2.1.size)) (And.intro ((unhide O9).2.2.1.below b10 (unhide O9).2.2.1.lt) (And.intro ((unhide O9).2.2.2.1.below b10 (unhide O9).2.2.2.1.lt) (And.intro ((unhide O9).2.2.2.2.below b10 (unhide O9).2.2.2.2.lt) (Blk.new_at w9 27 #[.int .i64 1, .int .i64 1] hY0.symm))))))
  clear b10
  have C10 := hide (drop_any T G 2 st3 _ (unhide O10).1 t3 [] (unhide O3).2.2.1 2 1 hh3)
  refine (unhide C10).mono ?_
  rintro e w11 ⟨rfl, st4, t4, A, B, o4, tt4, i4, lA, lB, kk4, tu4⟩
  have hl4 : t4.list = [1] := by
    have h3 := (unhide O3).2.2.2.1
    rw [h3] at lA
    have := split_unique (A := []) (B := [1]) lA (by simp)
    rw [lB, ← this.1, ← this.2]; rfl
  have hh4 : hasB 2 st4 2 1 = false := by
    cases q : hasB 2 st4 2 1 with
    | false => rfl
    | true =>
      have := (hasB_iff i4 2 1).1 q
      rw [hl4] at this
      simp at this
  have cnt4 : st4.count = 1 := by rw [i4.count, hl4]; rfl
  have O11 := hide (And.intro o4 (And.intro (Touch.low (unhide O10).2.1 tt4 hT hG (unhide O10).2.1.size) (And.intro ((unhide O10).2.2.1.touch tt4 (by omega) (by omega)) (And.intro ((unhide O10).2.2.2.1.touch tt4 (by omega) (by omega)) (And.intro ((unhide O10).2.2.2.2.1.touch tt4 (by omega) (by omega)) ((unhide O10).2.2.2.2.2.touch tt4 (by omega) (by omega)))))))
  clear o4 tt4 i4 lA lB kk4 tu4 hl4
  have g0 := (unhide O11).2.2.2.1.cell 0
  have g1 := (unhide O11).2.2.2.1.cell 1
  simp only [List.getElem?_toArray, List.getElem?_cons_zero, List.getElem?_cons_succ] at g0 g1
  go_wp2_with (go_at_call 8; refine Hid.out ?_)
  refine hide ?_
  clear g0 g1
  have C11 := hide (drop_none T G 2 st4 w11 (unhide O11).1 2 1 hh4)
  refine (unhide C11).mono ?_
  rintro e w12 ⟨rfl, b12⟩
  have O12 := hide (And.intro ((unhide O11).1.below b12) (And.intro ((unhide O11).2.1.trans (b12.mono (unhide O11).2.1.size)) (And.intro ((unhide O11).2.2.1.below b12 (unhide O11).2.2.1.lt) (And.intro ((unhide O11).2.2.2.1.below b12 (unhide O11).2.2.2.1.lt) (And.intro ((unhide O11).2.2.2.2.1.below b12 (unhide O11).2.2.2.2.1.lt) ((unhide O11).2.2.2.2.2.below b12 (unhide O11).2.2.2.2.2.lt))))))
  clear b12
  go_wp2_with (go_at_call 10; refine Hid.out ?_)
  refine hide ?_
  have C12 := hide (put_nil w12 0 0)
  refine (unhide C12).mono ?_
  rintro e w13 ⟨rfl, b13⟩
  have O13 := hide (And.intro ((unhide O12).1.below b13) (And.intro ((unhide O12).2.1.trans (b13.mono (unhide O12).2.1.size)) (And.intro ((unhide O12).2.2.1.below b13 (unhide O12).2.2.1.lt) (And.intro ((unhide O12).2.2.2.1.below b13 (unhide O12).2.2.2.1.lt) (And.intro ((unhide O12).2.2.2.2.1.below b13 (unhide O12).2.2.2.2.1.lt) ((unhide O12).2.2.2.2.2.below b13 (unhide O12).2.2.2.2.2.lt))))))
  clear b13
  obtain ⟨Z0, hZ0⟩ : ∃ x, w13.heap.size = x := ⟨_, rfl⟩
  have zA : A0 < Z0 := by rw [← hZ0]; exact (unhide O13).2.2.1.lt
  have zB : B0 < Z0 := by rw [← hZ0]; exact (unhide O13).2.2.2.1.lt
  have zX : X0 < Z0 := by rw [← hZ0]; exact (unhide O13).2.2.2.2.1.lt
  have zY : Y0 < Z0 := by rw [← hZ0]; exact (unhide O13).2.2.2.2.2.lt
  have ga0 := (unhide O13).2.2.1.cell 0
  have ga1 := (unhide O13).2.2.1.cell 1
  have gb0 := (unhide O13).2.2.2.1.cell 0
  have gb1 := (unhide O13).2.2.2.1.cell 1
  have gx0 := (unhide O13).2.2.2.2.1.cell 0
  have gx1 := (unhide O13).2.2.2.2.1.cell 1
  have gy0 := (unhide O13).2.2.2.2.2.cell 0
  have gy1 := (unhide O13).2.2.2.2.2.cell 1
  simp only [List.getElem?_toArray, List.getElem?_cons_zero, List.getElem?_cons_succ] at ga0 ga1 gb0 gb1 gx0 gx1 gy0 gy1
  have b14 := one_below w13 (.cells #[.int .i64 0, .int .i64 0] 27)
  have C14 := hide (len_any T G 2 st4 _ ((unhide O13).1.below b14))
  rw [cnt4] at C14
  have B14 := hide ((unhide O13).2.1.trans (b14.mono (unhide O13).2.1.size))
  clear b14
  go_wp2_with (first | (go_at_call 15; with_reducible refine (unhide C14).mono ?_; rintro e w14 ⟨rfl, rfl⟩) | (go_at_call 15; with_reducible refine (len_nil _).mono ?_; rintro e w14 ⟨rfl, rfl⟩) | (go_at_call 5; refine (new_bad 0 (by omega) _).mono ?_; rintro e w14 ⟨rfl, rfl⟩))
  go_ret
  exact ⟨rfl, unhide B14⟩
end Go.Proofs.Ytpkadbjgkoijiaa
