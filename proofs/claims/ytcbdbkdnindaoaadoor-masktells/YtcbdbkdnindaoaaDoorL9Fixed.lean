import Derived.Test.YtcbdbkdnindaoaaDoorMk11
namespace Go.Proofs.YtcbdbkdnindaoaaDoor
open Go.RowKit Mk

def six : Nat → Int := fun i => [0, 1, 2, 5, 99, -1].getD i 0
theorem six_of : ofN six 6 = 39 := by decide +kernel
theorem none_of (f : Nat → Int) : ofN f 0 = 0 := rfl
theorem p_yes : parseN [48, 45, 50, 44, 53] = (39, true) := by decide +kernel
theorem p_no : parseN [48, 44, 49] = (0, false) := by decide +kernel
theorem n_2 : nextL (listOf 39) 2 = (5, true) := by decide +kernel
theorem n_5 : nextL (listOf 39) 5 = (0, true) := by decide +kernel
theorem k_1 : pickL (listOf 39) (-1) = (5, true) := by decide +kernel
theorem t_39 : textOf 39 = [48, 45, 50, 44, 53] := by decide +kernel
theorem t_0 : textOf 0 = [45] := by decide +kernel
theorem l_39 : (listOf 39).length = 4 := by decide +kernel
theorem l_7 : (listOf 7).length = 3 := by decide +kernel
theorem h_5 : hasB 39 5 = true := by decide +kernel
theorem h_99 : hasB 39 99 = false := by decide +kernel
theorem w_5 : woN 39 5 = 7 := by decide +kernel
theorem drew_to {P : Program} {f : FuncId} {args : Array Value} {w : World} {v : Ending} (h : Calls P f args w fun e w' => e = v ∧ ∃ n, w' = w.drewN n) : Calls P f args w fun e w' => e = v ∧ Below w.heap.size w w' := by
  refine h.mono ?_
  rintro e w' ⟨h1, n, rfl⟩
  exact ⟨h1, below_drewN w n⟩
set_option maxRecDepth 100000 in
set_option maxHeartbeats 4000000 in
theorem fixed9 (w : World) (ht : MTab w) : Calls Tryd.prog 6 #[] w fun e w' => e = .returned (.bool true) ∧ Below w.heap.size w w' := by
  obtain ⟨W, hW⟩ : ∃ W, W = w.alloc (.cells #[.int .i64 0, .int .i64 1, .int .i64 2, .int .i64 5, .int .i64 99, .int .i64 (-1)] 3) := ⟨_, rfl⟩
  obtain ⟨B, hB⟩ : ∃ B, w.heap.size = B := ⟨_, rfl⟩
  have hBW : Below B w W := by rw [hW, ← hB]; exact below1 w _
  have hT : MTab W := ht.below (hB ▸ hBW)
  have hblk : Blk W B 3 #[.int .i64 0, .int .i64 1, .int .i64 2, .int .i64 5, .int .i64 99, .int .i64 (-1)] := by rw [hW]; exact Blk.new_at _ _ _ hB.symm
  have C1 := hide (of_any (some ⟨B, 0, none⟩) 6 6 six W (by omega) (fun i hi => ⟨_, rfl, by
    rw [iadd0, hblk.cell]
    rcases (show i = 0 ∨ i = 1 ∨ i = 2 ∨ i = 3 ∨ i = 4 ∨ i = 5 by omega) with rfl | rfl | rfl | rfl | rfl | rfl <;> rfl⟩))
  rw [six_of] at C1
  have C2 := fun w' h => hide (parse_any [48, 45, 50, 44, 53] (by decide) w' h)
  rw [p_yes] at C2
  have C3 := fun w' h => hide (parse_any [48, 44, 49] (by decide) w' h)
  rw [p_no] at C3
  have C4 := fun w' => hide (next_any 39 2 (by omega) w')
  rw [n_2] at C4
  have C5 := fun w' => hide (next_any 39 5 (by omega) w')
  rw [n_5] at C5
  have C6 := fun w' => hide (pick_any 39 (-1) (by omega) w')
  rw [k_1] at C6
  have C7 := fun w' => hide (string_any 39 (by omega) w')
  rw [t_39] at C7
  have C8 := fun w' => hide (drew_to (len_any 39 (by omega) w'))
  rw [l_39] at C8
  have C9 := fun w' => hide (has_any 39 5 (by omega) w')
  rw [h_5] at C9
  have C10 := fun w' => hide (has_any 39 99 (by omega) w')
  rw [h_99] at C10
  have C11 := fun w' => hide (without_any 39 5 (by omega) w')
  rw [w_5] at C11
  have C12 := fun w' => hide (drew_to (len_any 7 (by omega) w'))
  rw [l_7] at C12
  have C13 := fun w' => hide (of_any none 0 0 six w' (by omega) (fun i hi => by omega))
  rw [none_of] at C13
  have C14 := fun w' => hide (string_any 0 (by omega) w')
  rw [t_0] at C14
  have he1 : ((bs [48, 45, 50, 44, 53]).toList == [48, 45, 50, 44, 53]) = true := by rw [ByteArray.toList_eq, bs_list]; rfl
  have he2 : ((bs [45]).toList == [45]) = true := by rw [ByteArray.toList_eq, bs_list]; rfl
  have HW := hide hW
  have S : Below W.heap.size W W := Below.refl _ _
  clear hblk hW ht
  have HBW := hide hBW
  clear hBW
  go_enter Tryd.func6, Tryd.ntmps6
  go_wp2_with (go_at_call 18; refine Hid.out ?_)
  refine hide ?_
  rw [← unhide HW]
  refine (unhide C1).mono ?_
  rintro e w1 ⟨rfl, rfl⟩
  clear HW C1
  go_wp2_with (go_at_call 16; refine Hid.out ?_)
  refine hide ?_
  refine (unhide (C2 _ (hT.below S))).mono ?_
  rintro e w1 ⟨rfl, hb⟩; have S := Below.trans S (hb.mono S.size); clear hb
  go_wp2_with (go_at_call 16; refine Hid.out ?_)
  refine hide ?_
  refine (unhide (C3 _ (hT.below S))).mono ?_
  rintro e w1 ⟨rfl, hb⟩; have S := Below.trans S (hb.mono S.size); clear hb
  go_wp2_with (go_at_call 11; refine Hid.out ?_)
  refine hide ?_
  refine (unhide (C4 _)).mono ?_
  rintro e w1 ⟨rfl, hb⟩; have S := Below.trans S (hb.mono S.size); clear hb
  go_wp2_with (go_at_call 11; refine Hid.out ?_)
  refine hide ?_
  refine (unhide (C5 _)).mono ?_
  rintro e w1 ⟨rfl, hb⟩; have S := Below.trans S (hb.mono S.size); clear hb
  go_wp2_with (go_at_call 12; refine Hid.out ?_)
  refine hide ?_
  refine (unhide (C6 _)).mono ?_
  rintro e w1 ⟨rfl, hb⟩; have S := Below.trans S (hb.mono S.size); clear hb
  go_wp2_with (go_at_call 15; refine Hid.out ?_)
  refine hide ?_
  refine (unhide (C7 _)).mono ?_
  rintro e w1 ⟨rfl, hb⟩; have S := Below.trans S (hb.mono S.size); clear hb
  go_wp2_with (go_at_call 9; refine Hid.out ?_)
  refine hide ?_
  refine (unhide (C8 _)).mono ?_
  rintro e w1 ⟨rfl, hb⟩; have S := Below.trans S (hb.mono S.size); clear hb
  go_wp2_with (go_at_call 14; refine Hid.out ?_)
  refine hide ?_
  refine (unhide (C9 _)).mono ?_
  rintro e w1 ⟨rfl, rfl⟩
  go_wp2_with (go_at_call 14; refine Hid.out ?_)
  refine hide ?_
  refine (unhide (C10 _)).mono ?_
  rintro e w1 ⟨rfl, rfl⟩
  go_wp2_with (go_at_call 13; refine Hid.out ?_)
  refine hide ?_
  refine (unhide (C11 _)).mono ?_
  rintro e w1 ⟨rfl, rfl⟩
  go_wp2_with (go_at_call 9; refine Hid.out ?_)
  refine hide ?_
  refine (unhide (C12 _)).mono ?_
  rintro e w1 ⟨rfl, hb⟩; have S := Below.trans S (hb.mono S.size); clear hb
  go_wp2_with (go_at_call 18; refine Hid.out ?_)
  refine hide ?_
  refine (unhide (C13 _)).mono ?_
  rintro e w1 ⟨rfl, rfl⟩
  go_wp2_with (go_at_call 15; refine Hid.out ?_)
  refine hide ?_
  refine (unhide (C14 _)).mono ?_
  rintro e w1 ⟨rfl, hb⟩; have S := Below.trans S (hb.mono S.size); clear hb
  go_wp2_with fail
  go_ret
  refine ⟨rfl, ?_⟩
  rw [hB]
  exact (unhide HBW).trans (S.mono (hB ▸ (unhide HBW).size))
end Go.Proofs.YtcbdbkdnindaoaaDoor
