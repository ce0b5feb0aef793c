import Derived.Test.YtkglaklkbodjkaaCk3
namespace Go.Proofs.Ytkglaklkbodjkaa
open Go.RowKit Kt

theorem CB.new {w0 w w' : World} {B g : Nat} (hb : Below B w0 w) (hB : B ≤ w.heap.size) (hg : g = w.heap.size) (k : Clk w' g 0 0 0 0 false 0) (hb' : Below w.heap.size w w') : CB B w0 w' g 0 0 0 0 false 0 :=
  ⟨k, ⟨by decide, by decide, by decide, by decide, by decide, by decide, by decide, by decide⟩, hb.trans (hb'.mono hB), by omega, by have := hb'.size; omega⟩
set_option maxRecDepth 20000 in
set_option maxHeartbeats 2000000 in
theorem fixed11 (w : World) : Calls Try.prog 21 #[] w fun e w' => e = .returned (.bool true) ∧ Below w.heap.size w w' := by
  have e1 : subZ 112 102 = 10 := by decide
  have x1 : (act0 5 ⟨0, 0, 0, 0, false, 0⟩).1 = 0 := by decide
  have x2 : (actTo 100 ⟨5, 5, 5, 5, false, 0⟩).1 = 0 := by decide
  have x3 : (act0 5 ⟨5, 5, 100, 5, false, 1⟩).1 = 0 := by decide
  have x4 : (act3 ⟨10, 10, 105, 10, false, 1⟩).1 = 0 := by decide
  have x5 : (act4 ⟨17, 10, 105, 10, true, 1⟩).1 = 0 := by decide
  have C1 := hide (cnew_any w)
  have CN := fun w' => hide (adv_nil w' 1)
  have CS := fun w' => hide (suspd_nil w')
  have CO := fun w' g => hide (cnow_out w' g 3 (.inr (by decide)))
  obtain ⟨B, hB⟩ : ∃ B, w.heap.size = B := ⟨_, rfl⟩
  rw [hB] at C1
  go_enter Try.func21, Try.ntmps21
  go_wp2_with (go_at_call 22; refine Hid.out ?_)
  refine hide ?_
  refine (unhide C1).mono ?_
  rintro e w1 ⟨rfl, h1, b1⟩
  have H1 : Hid (CB B w w1 B 0 0 0 0 false 0) := hide (CB.new (w := w) (Below.refl _ _) (by omega) hB.symm h1 (by rw [hB]; exact b1))
  clear h1 b1 C1
  go_wp2_with (go_at_call 23; refine Hid.out ?_)
  refine hide ?_
  refine (badv (z := ⟨0, 0, 0, 0, false, 0⟩) (unhide H1) 5).mono ?_
  rintro e w2 ⟨rfl, h2, -⟩
  have H2 : Hid (CB B w w2 B 5 5 5 5 false 0) := hide h2
  clear h2 H1
  go_wp2_with (go_at_call 24; refine Hid.out ?_)
  refine hide ?_
  refine (bset (z := ⟨5, 5, 5, 5, false, 0⟩) (unhide H2) (by decide) 100).mono ?_
  rintro e w3 ⟨rfl, h3, -⟩
  have H3 : Hid (CB B w w3 B 5 5 100 5 false 1) := hide h3
  clear h3 H2
  go_wp2_with (go_at_call 23; refine Hid.out ?_)
  refine hide ?_
  refine (badv (z := ⟨5, 5, 100, 5, false, 1⟩) (unhide H3) 5).mono ?_
  rintro e w4 ⟨rfl, h4, -⟩
  have H4 : Hid (CB B w w4 B 10 10 105 10 false 1) := hide h4
  have N0 := hide (nowR w4 (unhide H4).clk (unhide H4).nums 0 (by decide) (by decide))
  have N1 := hide (nowR w4 (unhide H4).clk (unhide H4).nums 1 (by decide) (by decide))
  rw [if_neg (by decide), if_neg (by decide)] at N0
  rw [if_pos rfl] at N1
  clear h4 H3
  go_wp2_with (first | (go_at_call 29; with_reducible refine (unhide N0).mono ?_; rintro e w6 ⟨rfl, rfl⟩) | (go_at_call 29; with_reducible refine (unhide N1).mono ?_; rintro e w7 ⟨rfl, rfl⟩) | (go_at_call 26; refine Hid.out ?_))
  refine hide ?_
  refine (bsusp (z := ⟨10, 10, 105, 10, false, 1⟩) (unhide H4)).mono ?_
  rintro e w5 ⟨rfl, h5, -⟩
  have H5 : Hid (CB B w w5 B 10 10 105 10 true 1) := hide h5
  clear h5 H4 N0 N1
  go_wp2_with (go_at_call 23; refine Hid.out ?_)
  refine hide ?_
  refine (badv (z := ⟨10, 10, 105, 10, true, 1⟩) (unhide H5) 7).mono ?_
  rintro e w6 ⟨rfl, h6, -⟩
  have H6 : Hid (CB B w w6 B 17 10 105 10 true 1) := hide h6
  clear h6 H5
  go_wp2_with (go_at_call 27; refine Hid.out ?_)
  refine hide ?_
  refine (bresume (z := ⟨17, 10, 105, 10, true, 1⟩) (unhide H6) (by decide)).mono ?_
  rintro e w7 ⟨rfl, h7, -⟩
  have H7 : Hid (CB B w w7 B 17 10 112 17 false 2) := hide h7
  have N0 := hide (nowR w7 (unhide H7).clk (unhide H7).nums 2 (by decide) (by decide))
  rw [if_neg (by decide), if_pos rfl] at N0
  have CG := hide (cgen_any w7 (unhide H7).clk)
  have CC := hide (counter_any w7 (unhide H7).clk)
  have CT := hide (tomono_in w7 (unhide H7).clk 1 112 (by decide) (by decide) 102 (by decide))
  rw [e1] at CT
  have CR := hide (resume_bad w7 (unhide H7).clk)
  have CO2 := CO w7 B
  clear h7 H6 e1 CO
  go_wp2_with (first
    | (go_at_call 29; with_reducible refine (unhide N0).mono ?_; rintro e w8 ⟨rfl, rfl⟩)
    | (go_at_call 29; with_reducible refine (unhide CO2).mono ?_; rintro e w8 ⟨rfl, rfl⟩)
    | (go_at_call 33; refine (unhide CG).mono ?_; rintro e w8 ⟨rfl, rfl⟩)
    | (go_at_call 31; refine (unhide CC).mono ?_; rintro e w8 ⟨rfl, rfl⟩)
    | (go_at_call 34; refine (unhide CT).mono ?_; rintro e w8 ⟨rfl, rfl⟩)
    | (go_at_call 27; refine (unhide CR).mono ?_; rintro e w8 ⟨rfl, rfl⟩)
    | (go_at_call 23; refine (unhide (CN _)).mono ?_; rintro e w8 ⟨rfl, rfl⟩)
    | (go_at_call 32; refine (unhide (CS _)).mono ?_; rintro e w8 ⟨rfl, rfl⟩))
  go_ret
  exact ⟨rfl, by rw [hB]; exact (unhide H7).low⟩
end Go.Proofs.Ytkglaklkbodjkaa
