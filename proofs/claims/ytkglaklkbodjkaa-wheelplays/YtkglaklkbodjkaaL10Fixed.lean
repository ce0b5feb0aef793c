import Derived.Test.YtkglaklkbodjkaaWh14
namespace Go.Proofs.Ytkglaklkbodjkaa
open Go.RowKit Wh
set_option linter.unusedVariables false

set_option maxRecDepth 20000 in
set_option maxHeartbeats 2000000 in
theorem fixed10 (w : World) : Calls Try.prog 10 #[] w fun e w' => e = .returned (.bool true) ∧ Below w.heap.size w w' := by
  have i1 : isI 7 := isI_of (by decide) (by decide)
  have i2 : isI 8 := isI_of (by decide) (by decide)
  have i3 : isI 1 := isI_of (by decide) (by decide)
  have C1 := hide (new_has w (Below.refl w.heap.size w) (Nat.le_refl _))
  have CP := fun w' => hide (put_nil 1 1 w')
  have CD := fun w' => hide (drop_nil 1 w')
  have CN := fun w' => hide (now_nil w')
  have CL := fun w' => hide (len_nil w')
  have p1 : putE 0 [] 7 3 = 0 := by decide
  have p2 : putE 0 [(7, 3)] 8 20 = 0 := by decide
  obtain ⟨C, hC⟩ : ∃ C, w.heap.size = C := ⟨_, rfl⟩
  rw [hC] at C1
  go_enter Try.func10, Try.ntmps10
  go_wp2_with (go_at_call 11; refine Hid.out ?_)
  refine hide ?_
  refine (unhide C1).mono ?_
  rintro e w1 ⟨B, H, Mb, rfl, v1, -, -⟩
  have H1 := hide v1
  clear v1 C1
  go_wp2_with (go_at_call 13; refine Hid.out ?_)
  refine hide ?_
  refine (wput (unhide H1) (by decide) (by decide) 7 3 i1).mono ?_
  rintro e w2 ⟨rfl, n2, sv2, hn2, v2, -⟩
  have H2 : Hid (Wv C w w2 B H Mb 0 n2 [(7, 3)] sv2) := hide v2
  clear v2 H1
  go_wp2_with (go_at_call 13; refine Hid.out ?_)
  refine hide ?_
  refine (wput (unhide H2) (by decide) (by omega) 8 20 i2).mono ?_
  rintro e w3 ⟨rfl, n3, sv3, hn3, v3, -⟩
  have H3 : Hid (Wv C w w3 B H Mb 0 n3 [(7, 3), (8, 20)] sv3) := hide v3
  clear v3 H2
  go_wp2_with (go_at_call 16; refine Hid.out ?_)
  refine hide ?_
  refine (wadvance (unhide H3) (by decide) 3 3 (by decide)).mono ?_
  rintro e w4 ⟨va, rfl, ra, sv4, v4, -, oa⟩
  have H4 : Hid (Wv C w w4 B H Mb 3 n3 [(8, 20)] sv4) := hide v4
  have RA : Hid (Ir w4 w3.heap.size va [7]) := hide ra
  have OA := hide oa
  clear v4 H3 ra oa
  obtain ⟨pa, capa, hfa, -⟩ := (unhide RA).form
  subst hfa
  have CF := hide (wleft (unhide H4) 8 i2 20 (by decide))
  go_wp2_with (first | (go_at_call 17; refine (unhide CF).mono ?_; rintro e w6 ⟨rfl, rfl⟩) | (go_at_call 16; refine Hid.out ?_))
  clear CF
  refine hide ?_
  refine (wadvance (unhide H4) (by decide) 17 17 (by decide)).mono ?_
  rintro e w5 ⟨vb, rfl, rb, sv5, v5, f5, ob⟩
  have H5 : Hid (Wv C w w5 B H Mb 20 n3 [] sv5) := hide v5
  have RB : Hid (Ir w5 w6.heap.size vb [8]) := hide rb
  have RA5 := hide (f5.row (unhide RA) (unhide OA))
  clear v5 H4 rb ob f5 OA RA
  obtain ⟨pb, capb, hfb, hcb⟩ := (unhide RB).form
  subst hfb
  obtain ⟨pa2, capa2, hfa2, hca⟩ := (unhide RA5).form
  cases hfa2
  obtain ⟨ga, rfl, hca⟩ := hca 0 7 rfl
  obtain ⟨gb, rfl, hcb⟩ := hcb 0 8 rfl
  have DL := hide (wlen (unhide H5))
  have DN := hide (wnow (unhide H5))
  have DP := hide (put_range H 1 0 w5 (.inl (by decide)))
  have HB := hide (CD w5)
  go_wp2_with (first
    | (go_at_call 19; with_reducible refine (unhide DL).mono ?_; rintro e w7 ⟨rfl, rfl⟩)
    | (go_at_call 20; with_reducible refine (unhide DN).mono ?_; rintro e w7 ⟨rfl, rfl⟩)
    | (go_at_call 13; with_reducible refine (unhide DP).mono ?_; rintro e w7 ⟨rfl, rfl⟩)
    | (go_at_call 13; with_reducible refine (unhide (CP _)).mono ?_; rintro e w7 ⟨rfl, rfl⟩)
    | (go_at_call 14; with_reducible refine (unhide (CD _)).mono ?_; rintro e w8 ⟨rfl, hb8⟩)
    | (go_at_call 20; with_reducible refine (unhide (CN _)).mono ?_; rintro e w9 ⟨rfl, rfl⟩)
    | (go_at_call 19; with_reducible refine (unhide (CL _)).mono ?_; rintro e w9 ⟨rfl, rfl⟩))
  go_ret
  exact ⟨rfl, by rw [hC]; exact ((unhide H5).below hb8).low⟩
end Go.Proofs.Ytkglaklkbodjkaa
