import Derived.Test.YtihfldjoogaolaaQv
namespace Go.Proofs.Ytihfldjoogaolaa
open Go.RowKit Kt Qu
set_option linter.unusedVariables false

def ft1 : Tmr := ⟨1, 0, 5, 9, false⟩
def ft2 : Tmr := ⟨2, 0, 3, 3, false⟩
theorem okT_small {a b c d : Int} {e : Bool} (ha : -9223372036854775808 ≤ a ∧ a ≤ 9223372036854775807) (hb : -9223372036854775808 ≤ b ∧ b ≤ 9223372036854775807) (hc : -9223372036854775808 ≤ c ∧ c ≤ 9223372036854775807) (hd : -9223372036854775808 ≤ d ∧ d ≤ 9223372036854775807) : okT ⟨a, b, c, d, e⟩ :=
  ⟨isI_of ha.1 ha.2, isI_of hb.1 hb.2, isI_of hc.1 hc.2, isI_of hd.1 hd.2⟩
set_option maxRecDepth 20000 in
set_option maxHeartbeats 600000 in
theorem fixed13 (w : World) : Calls Try.prog 5 #[] w fun e w' => e = .returned (.bool true) ∧ Below w.heap.size w w' := by
  obtain ⟨C, hC⟩ : ∃ C, w.heap.size = C := ⟨_, rfl⟩
  have CN := hide (snew w)
  have k1 : okT ft1 := okT_small (by decide) (by decide) (by decide) (by decide)
  have k2 : okT ft2 := okT_small (by decide) (by decide) (by decide) (by decide)
  have HK := hide (And.intro k1 k2)
  clear k1 k2
  rw [hC]
  go_enter Try.func5, Try.ntmps5
  go_wp2_with (go_at_call 6; refine Hid.out ?_)
  refine hide ?_
  refine (unhide CN).mono ?_
  rintro e w1 ⟨a, rfl, q1, b1, f1⟩
  have H1 := hide (Qv.new (C := C) (hC ▸ Below.refl w.heap.size w) (by omega) q1 b1 f1)
  clear q1 b1 f1 CN
  go_wp2_with (go_at_call 9; refine Hid.out ?_)
  refine hide ?_
  have C1 := sadd (unhide H1).q (by omega) ft1 (unhide HK).1
  rw [show addE [] ft1 = 0 by decide, show addR [] ft1 = [ft1] from rfl] at C1
  refine C1.mono ?_
  rintro e w2 ⟨rfl, q2, f2⟩
  have H2 := hide ((unhide H1).step q2 f2)
  clear q2 f2 C1 H1
  go_wp2_with (go_at_call 9; refine Hid.out ?_)
  refine hide ?_
  have C1 := sadd (unhide H2).q (by omega) ft2 (unhide HK).2
  rw [show addE [ft1] ft2 = 0 by decide, show addR [ft1] ft2 = [ft2, ft1] from rfl] at C1
  refine C1.mono ?_
  rintro e w3 ⟨rfl, q2, f2⟩
  have H3 := hide ((unhide H2).step q2 f2)
  clear q2 f2 C1 H2
  have CF := hide (sfirst (unhide H3).q)
  rw [show fstV [ft2, ft1] = .tuple #[.agg #[.int .i64 2, .int .i64 0, .int .i64 3, .int .i64 3, .bool false], .bool true] from rfl] at CF
  go_wp2_with (go_at_call 14; refine Hid.out ?_)
  refine hide ?_
  refine (unhide CF).mono ?_
  rintro e w4 ⟨rfl, b4⟩
  obtain ⟨B4, hB4⟩ : ∃ b, w4.heap.size = b := ⟨_, rfl⟩
  obtain ⟨W5, hW5⟩ : ∃ W5, W5 = w4.alloc (.cells #[.int .i64 2, .int .i64 0, .int .i64 3, .int .i64 3, .bool false] 28) := ⟨_, rfl⟩
  have b5 : Below w4.heap.size w4 W5 := by rw [hW5]; exact one_below _ _
  have x5 : Blk W5 B4 28 #[.int .i64 2, .int .i64 0, .int .i64 3, .int .i64 3, .bool false] := by rw [hW5]; exact Blk.new_at _ _ _ hB4.symm
  have v5 := ((unhide H3).below b4).below b5
  have hB4f : ∀ k, a.foot k → k ≠ B4 := fun k hk e => by have := ((unhide H3).below b4).q.lts k hk; omega
  have H5 := hide (And.intro v5 (And.intro x5 hB4f))
  have HW := hide hW5
  clear b5 x5 v5 b4 hW5 CF H3 hB4f
  have CD := hide (sdue_no (unhide H5).1.q 2 (fun y S e => by cases e; decide))
  rw [show tv t0 = .agg #[.int .i64 0, .int .i64 0, .int .i64 0, .int .i64 0, .bool false] from rfl] at CD
  go_wp2_with (go_at_call 11; refine Hid.out ?_)
  refine hide ?_
  rw [← unhide HW]
  refine (unhide CD).mono ?_
  rintro e w6 ⟨rfl, b6⟩
  obtain ⟨W7, hW7⟩ : ∃ W7, W7 = w6.alloc (.cells #[.int .i64 0, .int .i64 0, .int .i64 0, .int .i64 0, .bool false] 28) := ⟨_, rfl⟩
  have b7 : Below w6.heap.size w6 W7 := by rw [hW7]; exact one_below _ _
  have H7 := hide (And.intro (((unhide H5).1.below b6).below b7) (And.intro (((unhide H5).2.1.below b6 (unhide H5).2.1.lt).below b7 ((unhide H5).2.1.below b6 (unhide H5).2.1.lt).lt) (unhide H5).2.2))
  have HW7 := hide hW7
  clear b7 hW7 b6 CD H5 HW
  have CD := hide (sdue_ok (unhide H7).1.q 3 (by decide))
  rw [show tv ft2 = .agg #[.int .i64 2, .int .i64 0, .int .i64 3, .int .i64 3, .bool false] from rfl] at CD
  go_wp2_with (go_at_call 11; refine Hid.out ?_)
  refine hide ?_
  rw [← unhide HW7]
  refine (unhide CD).mono ?_
  rintro e w8 ⟨rfl, q8, f8⟩
  obtain ⟨B8, hB8⟩ : ∃ b, w8.heap.size = b := ⟨_, rfl⟩
  obtain ⟨W9, hW9⟩ : ∃ W9, W9 = w8.alloc (.cells #[.int .i64 2, .int .i64 0, .int .i64 3, .int .i64 3, .bool false] 28) := ⟨_, rfl⟩
  have b9 : Below w8.heap.size w8 W9 := by rw [hW9]; exact one_below _ _
  have v8 := (unhide H7).1.step q8 f8
  have x8 := (unhide H7).2.1.ft f8 (fun hk => (unhide H7).2.2 _ hk rfl)
  have y9 : Blk W9 B8 28 #[.int .i64 2, .int .i64 0, .int .i64 3, .int .i64 3, .bool false] := by rw [hW9]; exact Blk.new_at _ _ _ hB8.symm
  have H9 := hide (And.intro (v8.below b9) (And.intro (x8.below b9 x8.lt) (And.intro y9 (And.intro (unhide H7).2.2 (fun k (hk : a.foot k) => (show k ≠ B8 from fun e => by have := v8.q.lts k hk; omega))))))
  have HW9 := hide hW9
  clear b9 v8 x8 y9 q8 f8 hW9 CD H7 HW7
  have CD := hide (sdrop_ok (A := []) (B := []) (t := ft1) (unhide H9).1.q)
  rw [show tv ft1 = .agg #[.int .i64 1, .int .i64 0, .int .i64 5, .int .i64 9, .bool false] from rfl, show ft1.id = 1 from rfl] at CD
  go_wp2_with (go_at_call 10; refine Hid.out ?_)
  refine hide ?_
  rw [← unhide HW9]
  refine (unhide CD).mono ?_
  rintro e wa ⟨rfl, qa, fa⟩
  obtain ⟨Ba, hBa⟩ : ∃ b, wa.heap.size = b := ⟨_, rfl⟩
  obtain ⟨Wb, hWb⟩ : ∃ Wb, Wb = wa.alloc (.cells #[.int .i64 1, .int .i64 0, .int .i64 5, .int .i64 9, .bool false] 28) := ⟨_, rfl⟩
  have bb : Below wa.heap.size wa Wb := by rw [hWb]; exact one_below _ _
  obtain ⟨v9, x9, y9, n4, n8⟩ := unhide H9
  have va := v9.step qa fa
  have xa := x9.ft fa (fun hk => n4 _ hk rfl)
  have ya := y9.ft fa (fun hk => n8 _ hk rfl)
  have vb := va.below bb
  have xb := xa.below bb xa.lt
  have yb := ya.below bb ya.lt
  have zb : Blk Wb Ba 28 #[.int .i64 1, .int .i64 0, .int .i64 5, .int .i64 9, .bool false] := by rw [hWb]; exact Blk.new_at _ _ _ hBa.symm
  have s0 := hkHeld xb 0 (.int .i64 2) rfl
  have s1 := hkHeld xb 1 (.int .i64 0) rfl
  have s2 := hkHeld xb 2 (.int .i64 3) rfl
  have s3 := hkHeld xb 3 (.int .i64 3) rfl
  have s4 := hkHeld xb 4 (.bool false) rfl
  have t0' := hkHeld yb 0 (.int .i64 2) rfl
  have u3 := hkHeld zb 3 (.int .i64 9) rfl
  have hrefl : Below Wb.heap.size Wb Wb := Below.refl _ _
  have s0' := s0 _ hrefl
  have t0'' := t0' _ hrefl
  have u3' := u3 _ hrefl
  clear t0' u3
  have s5 := fun w' hb => (And.intro (s0 w' hb) (And.intro (s1 w' hb) (And.intro (s2 w' hb) (And.intro (s3 w' hb) (s4 w' hb)))))
  have S5 := hide s5
  clear s5
  have CL := hide (slen_any vb.q)
  rw [show (([] ++ [] : List Tmr).length : Int) = 0 from rfl] at CL
  have CA := fun w' (hb : Below Wb.heap.size Wb w') => hide (qadd_inval a.q w' ⟨0, 0, 2, 1, false⟩ (by decide))
  have CA2 := fun w' => hide (qadd_nil w' ft2)
  have CH := fun w' => hide (qhas_nil w' 1)
  have CL2 := fun w' => hide (qlen_nil w')
  have HB := hide vb.low
  have HBS := hide vb.cs
  simp only [tv, ft2] at CA CA2
  have HWb := hide hWb
  clear hWb s0 s1 s2 s4 s3 bb va xa ya vb xb yb zb v9 x9 y9 n4 n8 qa fa H9 CD HW9
  go_upto_region 9 with fail
  rw [← unhide HWb]
  go_wp2_with (first
    | (go_at_call 15; with_reducible refine (unhide CL).mono ?_; rintro e wx ⟨rfl, hwx⟩; obtain rfl := hwx.symm)
    | (go_at_call 9; with_reducible refine (unhide (CA _ hrefl)).mono ?_; rintro e wc ⟨rfl, hbc⟩; obtain ⟨g0, g1, g2, g3, g4⟩ := unhide S5 _ hbc)
    | (go_at_call 9; with_reducible refine (unhide (CA2 _)).mono ?_; rintro e wd ⟨rfl, hbd⟩)
    | (go_at_call 16; with_reducible refine (unhide (CH _)).mono ?_; rintro e we ⟨rfl, rfl⟩)
    | (go_at_call 15; with_reducible refine (unhide (CL2 _)).mono ?_; rintro e we ⟨rfl, rfl⟩))
  go_ret
  have h1 := (unhide HB).trans (hbc.mono (unhide HBS))
  exact ⟨rfl, h1.trans (hbd.mono (by have := hbc.size; have := unhide HBS; omega))⟩
end Go.Proofs.Ytihfldjoogaolaa
