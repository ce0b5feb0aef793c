import Derived.Test.YtpdljlfhnnlijaaL6Hs
namespace Go.Proofs.Ytpdljlfhnnlijaa
open Go.RowKit

theorem hInfo : (Try.prog.info? 27).map (fun i => (i.zero, i.size, i.bytes)) = some (some (.agg #[.int .i64 0, .int .i64 0]), 2, 16) := by kernel_rfl
theorem info_parts {i : Option TypeInfo} {z : Value} {s b : Nat} (h : i.map (fun i => (i.zero, i.size, i.bytes)) = some (some z, s, b)) : ∃ i0, i = some i0 ∧ i0.zero = some z ∧ i0.size = s ∧ i0.bytes = b := by
  cases i with
  | none => cases h
  | some i0 =>
    simp only [Option.map_some, Option.some.injEq, Prod.mk.injEq] at h
    exact ⟨i0, rfl, h.1, h.2.1, h.2.2⟩
set_option maxRecDepth 100000 in
set_option maxHeartbeats 4000000 in
theorem lhandles_walk (k1 k2 m1 m2 : Int) (n : Nat) (w : World) (hn : n ≤ 255) :
    Calls Try.prog 5 #[.agg #[.int .i64 k1, .int .i64 k2], .agg #[.int .i64 m1, .int .i64 m2], .int .u8 (n : Int)] w fun e w' => e = .returned (.bool true) ∧ Below w.heap.size w w' := by
  obtain ⟨B, hB⟩ : ∃ B, w.heap.size = B := ⟨_, rfl⟩
  obtain ⟨W0, hW0⟩ : ∃ W0, W0 = (w.alloc (.cells #[.int .i64 k1, .int .i64 k2] 38)).alloc (.cells #[.int .i64 m1, .int .i64 m2] 38) := ⟨_, rfl⟩
  have CF := hide (fixed6 W0)
  have CN := fun w' => hide (tnew 1 (by omega) (by omega) w')
  rw [show ((1 : Nat) : Int) = 1 from rfl] at CN
  have b0 : Below B w W0 := by rw [hW0, ← hB]; exact (one_below w _).trans ((one_below _ _).mono (one_below w _).size)
  have kk0 : Blk W0 B 38 #[.int .i64 k1, .int .i64 k2] := by rw [hW0]; exact (Blk.new_at _ _ _ hB.symm).alloc _
  have km0 : Blk W0 (B + 1) 38 #[.int .i64 m1, .int .i64 m2] := by rw [hW0]; exact Blk.new_at _ _ _ (by simp [hB])
  have hz0 : W0.heap.size = B + 2 := by rw [hW0]; simp [hB]
  have H00 := hide (And.intro b0 (And.intro kk0 (And.intro km0 hz0)))
  have hn2 : ((n : Nat) : Int) ≤ 255 := by omega
  clear b0 kk0 km0 hz0
  go_enter Try.func5, Try.ntmps5
  go_wp2_with (go_at_call 7; refine Hid.out ?_)
  refine hide ?_
  rw [← hW0]
  refine (unhide CF).mono ?_
  rintro e w1 ⟨rfl, hb1⟩
  go_wp2_with (go_at_call 8; refine Hid.out ?_)
  refine hide ?_
  refine (unhide (CN _)).mono ?_
  rintro e w2 ⟨T, G, rfl, tr2, hb2, hT, hG⟩
  obtain ⟨C, hC⟩ : ∃ C, w2.heap.size = C := ⟨_, rfl⟩
  have HH0 : Hid (HS w B C T G w2 (fun _ => 0) [] (.slice none 0 0) 0 k1 k2 m1 m2) := hide (by
    obtain ⟨b0, kk0, km0, hz0⟩ := unhide H00
    have s1 := hb1.size
    have s2 := hb2.size
    have l := tr2.lts
    exact ⟨tr2, World.ownsRow_nil _ _ _ _, (kk0.below hb1 kk0.lt).below hb2 (kk0.below hb1 kk0.lt).lt, (km0.below hb1 km0.lt).below hb2 (km0.below hb1 km0.lt).lt, (b0.trans (hb1.mono (by omega))).trans (hb2.mono (by omega)), by omega, by omega⟩)
  clear tr2 hb1 hb2 hT hG CF CN H00 hW0
  go_wp2_with fail
  go_loopw [8, 22] (fun s8 d w' => ∃ (i c : Nat) (tf : Nat → Int) (p1 p2 q1 q2 : Int), d = .int .i64 (i : Int) ∧ i ≤ n ∧ Hid (HS w B C T G w' tf [] s8 c p1 p2 q1 q2 ∧ c ≤ i ∧ c ≤ 20 ∧ tf 1 = i ∧ (∀ x, 0 ≤ tf x ∧ tf x ≤ i) ∧ (c < 20 → c = i))) (fun _ d _ => n - (intOf d).toNat)
  case atStart => exact ⟨0, 0, fun _ => 0, k1, k2, m1, m2, rfl, by omega, hide ⟨unhide HH0, by omega, by omega, rfl, fun _ => ⟨by show (0 : Int) ≤ 0; omega, by show (0 : Int) ≤ ((0 : Nat) : Int); omega⟩, fun _ => rfl⟩⟩
  case round =>
    obtain ⟨i, c, tf, p1, p2, q1, q2, rfl, hi, HI⟩ := hrel
    obtain ⟨hs, ci, c20, t1, tb, cc⟩ := unhide HI
    by_cases hlt : i < n
    · have e0 := hs.k.cell 0
      have e1 := hs.k.cell 1
      have C1 := hide (tput T G 1 tf [] wr hs.tr (by simp) (fun x => ⟨(tb x).1, by have := (tb x).2; omega⟩) p1 p2)
      have HA := hide (And.intro hs (And.intro ci (And.intro c20 (And.intro t1 (And.intro tb cc)))))
      clear hs tb HI HH0 t1
      go_wp2_with (go_at_call 13; refine Hid.out ?_)
      refine hide ?_
      refine (unhide C1).mono ?_
      rintro e w3 ⟨n1, pre, post, rfl, g1, g2, g3, l3, g4, g5, tr3, tt3⟩
      obtain rfl : n1 = 1 := by omega
      obtain ⟨hs, ci, c20, t1, tb, cc⟩ := unhide HA
      obtain ⟨rfl, rfl⟩ : pre = [] ∧ post = [] := by simpa using l3.symm
      rw [t1] at tr3 ⊢
      simp only [List.nil_append] at tr3
      obtain ⟨hb, hhb⟩ : ∃ x, w3.heap.size = x := ⟨_, rfl⟩
      have h3 := (hs.touch tr3 tt3).below (one_below w3 (.cells #[.int .i64 1, .int .i64 ((i : Int) + 1)] 27))
      have kh3 := Blk.new_at w3 27 #[.int .i64 1, .int .i64 ((i : Int) + 1)] hhb.symm
      have hrne : ∀ k, u8.ownBlock = some k → k < hb := fun k hk => by have := ((hs.touch tr3 tt3).row.lt k hk).2; omega
      have hbC : C ≤ hb := by have := (hs.touch tr3 tt3).cz; omega
      obtain ⟨ra, rcap, rfl, _⟩ := h3.form
      have H3 := hide (And.intro h3 kh3)
      clear hs h3 kh3 tr3 tt3 C1 e0 e1 g3 g4 g5 l3
      go_wp2_with fail
      go_loopw [34] (fun d w' => ∃ j : Nat, d = .int .i64 (j : Int) ∧ j ≤ c ∧ Hid (HS w B C T G w' (fun x => if x = 1 then (i : Int) + 1 else tf x) [⟨1, (i : Int) + 1, p1, p2⟩] (.slice ra c rcap) c p1 p2 q1 q2 ∧ Blk w' hb 27 #[.int .i64 1, .int .i64 ((i : Int) + 1)])) (fun d _ => c - (intOf d).toNat)
      case atStart => exact ⟨0, rfl, by omega, H3⟩
      case round =>
        obtain ⟨j, rfl, hj, HJ⟩ := hrel
        clear H3
        by_cases hjc : j < c
        · obtain ⟨h4, kh4⟩ := unhide HJ
          obtain ⟨ra', rcap', hf, hcell⟩ := h4.form
          cases hf
          obtain ⟨g, rfl, x0, x1⟩ := hcell j hjc
          clear hcell
          obtain ⟨bx, hbx⟩ : ∃ x, wr.heap.size = x := ⟨_, rfl⟩
          have h5 := h4.below (one_below wr (.cells #[.int .i64 1, .int .i64 ((j : Int) + 1)] 27))
          have kh5 := kh4.alloc (.cells #[.int .i64 1, .int .i64 ((j : Int) + 1)] 27)
          have kx5 := Blk.new_at wr 27 #[.int .i64 1, .int .i64 ((j : Int) + 1)] hbx.symm
          have hout : ∀ y ∈ [(⟨1, (i : Int) + 1, p1, p2⟩ : It)], ¬ ((y.n : Int) = 1 ∧ y.tu = (j : Int) + 1) := by
            intro y hy
            rw [List.mem_singleton] at hy
            subst hy
            intro h
            have := h.2
            simp only at this
            omega
          have C5 := hide (tkey_out T G 1 _ _ _ h5.tr 1 ((j : Int) + 1) hout)
          have H5 := hide (And.intro h5 (And.intro kh5 kx5))
          have HOUT := hide hout
          clear h4 kh4 h5 kh5 kx5 hout
          go_wp2_with (go_at_call 17; refine Hid.out ?_)
          refine hide ?_
          refine (unhide C5).mono ?_
          rintro e w6 ⟨rfl, hb6⟩
          obtain ⟨h5, kh5, kx5⟩ := unhide H5
          obtain ⟨W7, hW7⟩ : ∃ W7, W7 = w6.alloc (.cells #[.int .i64 0, .int .i64 0] 38) := ⟨_, rfl⟩
          have b7 : Below w6.heap.size w6 W7 := by rw [hW7]; exact one_below _ _
          have h7 := (h5.below hb6).below b7
          have kh6 := kh5.below hb6 kh5.lt
          have kh7 := kh6.below b7 kh6.lt
          have kx6 := kx5.below hb6 kx5.lt
          have kx7 := kx6.below b7 kx6.lt
          have c0 := kx7.cell 0
          have c1 := kx7.cell 1
          have c2 := kh7.cell 0
          have c3 := kh7.cell 1
          rw [hW7] at c0 c1 c2 c3
          have hne : (((j : Int) + 1) == ((i : Int) + 1)) = false := by rw [beq_eq_false_iff_ne]; omega
          have hne2 : ((j : Int) == (i : Int)) = false := by rw [beq_eq_false_iff_ne]; omega
          have C7 := hide (tdrop_out T G 1 _ _ W7 h7.tr 1 ((j : Int) + 1) (unhide HOUT))
          have H7 := hide (And.intro h7 kh7)
          clear x0 x1 h5 kh5 kx5 h7 kh6 kh7 kx6 kx7 hb6 b7 C5 H5
          go_wp2_with (go_at_call 11; refine Hid.out ?_)
          refine hide ?_
          rw [← hW7]
          refine (unhide C7).mono ?_
          rintro e w8 ⟨rfl, hb8⟩
          have H8 := hide (And.intro ((unhide H7).1.below hb8) ((unhide H7).2.below hb8 (unhide H7).2.lt))
          clear c0 c1 c2 c3 hb8 C7 H7 hW7
          go_wp2_with fail
          go_roundw
          case rel => exact ⟨j + 1, by go_num, by omega, H8⟩
          case measure => simp [intOf]; omega
        · obtain rfl : j = c := by omega
          by_cases h20 : j < 20
          · obtain rfl : j = i := cc h20
            obtain ⟨h4, kh4⟩ := unhide HJ
            obtain ⟨i0, hi0, hz0, hz1, hz2⟩ := info_parts hInfo
            obtain ⟨gg, hgg⟩ : ∃ x, wr.heap.size = x := ⟨_, rfl⟩
            have hcz := h4.cz
            have a0 := kh4.cell 0
            have a1 := kh4.cell 1
            have H4 := hide (And.intro h4 kh4)
            clear h4 kh4
            go_wp2_with (at_builtin; refine wpList_append_own _ rfl _ _ 36 rfl C 27 i0 (.agg #[.int .i64 0, .int .i64 0]) 2 16 Try.underlying36 hi0 hz0 hz1 hz2 rfl (by decide) _ _ _ rfl ((unhide H4).1.row.alloc _) ⟨gg, 0, none⟩ 1 1 [.int .i64 1, .int .i64 ((j : Int) + 1)] rfl ?c0 ?c1 ?c2 ?c3 ?c4 ?c5 ?_)
            case c2 => exact ⟨rfl, rfl⟩
            case c3 => unfold maxLen; omega
            case c4 => omega
            case c5 => first | (simp; omega) | omega
            intro v' w9 hown9 hgrow hnil
            have h9 : HS w B C T G w9 (fun x => if x = 1 then (j : Int) + 1 else tf x) [⟨1, (j : Int) + 1, p1, p2⟩] v' (j + 1) p1 p2 q1 q2 := ((unhide H4).1.below (one_below wr _)).grown hgrow (by rw [hrow]; exact hown9)
            have kh9 := ((unhide H4).2.alloc (.cells #[.int .i64 1, .int .i64 ((j : Int) + 1)] 27)).grown hgrow (fun e => by have := hrne hb e.symm; omega)
            clear hown9 hgrow hnil H4 a0 a1
            have C4 : Hid (Calls Try.prog 17 #[.pointer (some ⟨T, 0, none⟩), .agg #[.int .i64 1, .int .i64 ((j : Int) + 1)]] w9 fun e w' => e = .returned (.tuple #[.agg #[.int .i64 p1, .int .i64 p2], .bool true]) ∧ Below w9.heap.size w9 w') := hide (tkey_in T G 1 _ [⟨1, (j : Int) + 1, p1, p2⟩] w9 h9.tr ⟨1, (j : Int) + 1, p1, p2⟩ (by simp))
            have a0 := kh9.cell 0
            have a1 := kh9.cell 1
            have H9 := hide (And.intro h9 kh9)
            clear h9 kh9
            go_wp2_with (go_at_call 17; refine Hid.out ?_)
            refine hide ?_
            refine (unhide C4).mono ?_
            rintro e w10 ⟨rfl, hb10⟩
            obtain ⟨h9, kh9⟩ := unhide H9
            obtain ⟨kb, hkb⟩ : ∃ x, w10.heap.size = x := ⟨_, rfl⟩
            obtain ⟨W11, hW11⟩ : ∃ W, W = w10.alloc (.cells #[.int .i64 p1, .int .i64 p2] 38) := ⟨_, rfl⟩
            have b11 : Below w10.heap.size w10 W11 := by rw [hW11]; exact one_below _ _
            have h11 := (h9.below hb10).below b11
            have kh10 := kh9.below hb10 kh9.lt
            have kh11 := kh10.below b11 kh10.lt
            have kb11 : Blk W11 kb 38 #[.int .i64 p1, .int .i64 p2] := by rw [hW11]; exact Blk.new_at _ _ _ hkb.symm
            have c0 := kb11.cell 0
            have c1 := kb11.cell 1
            have c2 := kh11.cell 0
            have c3 := kh11.cell 1
            have c4 := h11.k.cell 0
            have c5 := h11.k.cell 1
            rw [hW11] at c0 c1 c2 c3 c4 c5
            have H11 := hide h11
            clear a0 a1 h9 kh9 H9 C4 hb10 b11 h11 kh10 kh11 kb11
            go_wp2_with (go_at_call 11; refine Hid.out ?_)
            refine hide ?_
            rw [← hW11]
            refine (tdrop_in T G 1 _ [] [] ⟨1, (j : Int) + 1, p1, p2⟩ W11 (unhide H11).tr).mono ?_
            rintro e w12 ⟨rfl, tr12, tt12⟩
            have h12 := (unhide H11).touch tr12 tt12
            have d0 := h12.k.cell 0
            have d1 := h12.k.cell 1
            have d2 := h12.m.cell 0
            have d3 := h12.m.cell 1
            have f0 := h12.k.free
            have f1 := h12.m.free
            have H12 := hide h12
            clear c0 c1 c2 c3 c4 c5 h12 tr12 tt12 H11 hW11
            go_wp2_with fail
            go_roundw
            case rel =>
              obtain ⟨_, ci, c20, t1, tb, cc⟩ := unhide HA
              exact ⟨j + 1, j + 1, _, q1, q2, p1, p2, by go_num, by omega, hide ⟨(unhide H12).swap, by omega, by omega, by show (if (1 : Nat) = 1 then (j : Int) + 1 else tf 1) = _; rw [if_pos rfl]; omega, fun x => by
                have h1 := tb x
                show 0 ≤ (if x = 1 then (j : Int) + 1 else tf x) ∧ (if x = 1 then (j : Int) + 1 else tf x) ≤ _
                split <;> omega, by omega⟩⟩
            case measure => simp [intOf]; omega
          · obtain ⟨h9, kh9⟩ := unhide HJ
            obtain ⟨w9, hw9⟩ : ∃ w9, w9 = wr := ⟨_, rfl⟩
            rw [← hw9] at h9 kh9 ⊢
            clear hw9
            have C4 : Hid (Calls Try.prog 17 #[.pointer (some ⟨T, 0, none⟩), .agg #[.int .i64 1, .int .i64 ((i : Int) + 1)]] w9 fun e w' => e = .returned (.tuple #[.agg #[.int .i64 p1, .int .i64 p2], .bool true]) ∧ Below w9.heap.size w9 w') := hide (tkey_in T G 1 _ [⟨1, (i : Int) + 1, p1, p2⟩] w9 h9.tr ⟨1, (i : Int) + 1, p1, p2⟩ (by simp))
            have a0 := kh9.cell 0
            have a1 := kh9.cell 1
            have H9 := hide (And.intro h9 kh9)
            clear h9 kh9
            go_wp2_with (go_at_call 17; refine Hid.out ?_)
            refine hide ?_
            refine (unhide C4).mono ?_
            rintro e w10 ⟨rfl, hb10⟩
            obtain ⟨h9, kh9⟩ := unhide H9
            obtain ⟨kb, hkb⟩ : ∃ x, w10.heap.size = x := ⟨_, rfl⟩
            obtain ⟨W11, hW11⟩ : ∃ W, W = w10.alloc (.cells #[.int .i64 p1, .int .i64 p2] 38) := ⟨_, rfl⟩
            have b11 : Below w10.heap.size w10 W11 := by rw [hW11]; exact one_below _ _
            have h11 := (h9.below hb10).below b11
            have kh10 := kh9.below hb10 kh9.lt
            have kh11 := kh10.below b11 kh10.lt
            have kb11 : Blk W11 kb 38 #[.int .i64 p1, .int .i64 p2] := by rw [hW11]; exact Blk.new_at _ _ _ hkb.symm
            have c0 := kb11.cell 0
            have c1 := kb11.cell 1
            have c2 := kh11.cell 0
            have c3 := kh11.cell 1
            have c4 := h11.k.cell 0
            have c5 := h11.k.cell 1
            rw [hW11] at c0 c1 c2 c3 c4 c5
            have H11 := hide h11
            clear a0 a1 h9 kh9 H9 C4 hb10 b11 h11 kh10 kh11 kb11
            go_wp2_with (go_at_call 11; refine Hid.out ?_)
            refine hide ?_
            rw [← hW11]
            refine (tdrop_in T G 1 _ [] [] ⟨1, (i : Int) + 1, p1, p2⟩ W11 (unhide H11).tr).mono ?_
            rintro e w12 ⟨rfl, tr12, tt12⟩
            have h12 := (unhide H11).touch tr12 tt12
            have d0 := h12.k.cell 0
            have d1 := h12.k.cell 1
            have d2 := h12.m.cell 0
            have d3 := h12.m.cell 1
            have f0 := h12.k.free
            have f1 := h12.m.free
            have H12 := hide h12
            clear c0 c1 c2 c3 c4 c5 h12 tr12 tt12 H11 hW11
            go_wp2_with fail
            go_roundw
            case rel =>
              obtain ⟨_, ci, c20, t1, tb, cc⟩ := unhide HA
              exact ⟨i + 1, j, _, q1, q2, p1, p2, by go_num, by omega, hide ⟨(unhide H12).swap, by omega, by omega, by show (if (1 : Nat) = 1 then (i : Int) + 1 else tf 1) = _; rw [if_pos rfl]; omega, fun x => by
                have h1 := tb x
                show 0 ≤ (if x = 1 then (i : Int) + 1 else tf x) ∧ (if x = 1 then (i : Int) + 1 else tf x) ≤ _
                split <;> omega, by omega⟩⟩
            case measure => simp [intOf]; omega
    · have CL := hide (tlen T G 1 tf [] wr hs.tr)
      have S := hs.bl
      clear hs HI HH0 t1 tb cc
      go_wp2_with (go_at_call 19; refine (unhide CL).mono ?_; rintro e w' ⟨rfl, rfl⟩)
      go_ret
      exact ⟨rfl, by rw [hB]; exact S⟩
theorem lhandles_int (k1 k2 m1 m2 ti : Int) (w : World) (h : (Lit.int .u8 ti).wf = true) :
    Calls Try.prog 5 #[.agg #[.int .i64 k1, .int .i64 k2], .agg #[.int .i64 m1, .int .i64 m2], .int .u8 ti] w fun e w' => e = .returned (.bool true) ∧ Below w.heap.size w w' := by
  have hb : 0 ≤ ti ∧ ti ≤ 255 := by
    have h2 : IntKind.u8.min ≤ ti ∧ ti ≤ IntKind.u8.max := by simpa [Lit.wf] using h
    have e1 : IntKind.u8.min = 0 := by decide
    have e2 : IntKind.u8.max = 255 := by decide
    rw [e1, e2] at h2
    exact h2
  obtain ⟨n, rfl⟩ := Int.eq_ofNat_of_zero_le hb.1
  exact lhandles_walk k1 k2 m1 m2 n w (by omega)
end Go.Proofs.Ytpdljlfhnnlijaa
