import Derived.Test.YtjngnmpjkiafpaaDoorL7Secs
namespace Go.Proofs.YtjngnmpjkiafpaaDoor
open Go.RowKit Cv Dg

theorem parse_text (y m d H M S X : Int) (w : World) (hw : CTab w) (h : rB y m d H M S X = true) :
    Calls Tryd.prog 27 #[.string (textS y m d H M S X)] w fun e w' => e = .returned (.tuple #[dateV y m d H M S X, .bool true]) ∧ Below w.heap.size w w' := by
  have hp := parse_any (textS y m d H M S X) w hw
  have e0 : (textS y m d H M S X).data.toList = textL y m d H M S X := by simp [textS]
  obtain ⟨p1, p2, p3, p4, p5, p6, p7⟩ := parts_text y m d H M S X h
  have e1 : parseOk (textL y m d H M S X) = true := by
    unfold parseOk
    rw [formedB_true (text_formed y m d H M S X), p1, p2, p3, p4, p5, p6, p7, h]
    rfl
  have e2 : parseV (textL y m d H M S X) = dateV y m d H M S X := by
    unfold parseV
    rw [if_pos e1, p1, p2, p3, p4, p5, p6, p7]
  rw [e0, e1, e2] at hp
  exact hp
theorem date_spec (y m d H M S X : Int) (w : World) (h : rB y m d H M S X = true) :
    Calls Tryd.prog 28 #[.int .i64 (secZ y m d H M S), .int .i64 X] w fun e w' => e = .returned (.tuple #[dateV y m d H M S X, .bool true]) ∧ Below w.heap.size w w' := by
  obtain ⟨hv, h1, h2, h3, h4, h5, h6, h7, h8⟩ := (rB_iff ..).1 h
  have hb := num_bd hv
  have hd := day_of_num hv
  have es : sdZ (secZ y m d H M S) = numZ y m d := by unfold sdZ secZ; omega
  have er : srZ (secZ y m d H M S) = H * 3600 + M * 60 + S := by unfold srZ secZ; omega
  have hg := date_good (secZ y m d H M S) X w (by unfold secZ; omega) (by unfold secZ; omega) ((dateOk_iff _ _).2 ⟨h7, h8, by unfold secZ; omega, by unfold secZ; omega⟩)
  have e : dateOf (secZ y m d H M S) X = dateV y m d H M S X := by
    unfold dateOf
    rw [es, er, hd.1, hd.2.1, hd.2.2, show (H * 3600 + M * 60 + S) / 3600 = H by omega, show (H * 3600 + M * 60 + S) % 3600 / 60 = M by omega, show (H * 3600 + M * 60 + S) % 60 = S by omega]
  rw [e] at hg
  exact hg
theorem parseV_date (l : List UInt8) : ∃ a b c d e f g, parseV l = dateV a b c d e f g := by
  unfold parseV
  split
  · exact ⟨_, _, _, _, _, _, _, rfl⟩
  · exact ⟨_, _, _, _, _, _, _, rfl⟩

set_option maxRecDepth 100000 in
set_option maxHeartbeats 4000000 in
theorem texts_bad (y m d H M S X : Int) (s : ByteArray) (w : World) (hw : CTab w) (h : rB y m d H M S X = false) (hs : s.size ≤ 60) :
    Calls Tryd.prog 6 #[dateV y m d H M S X, .string s] w fun e w' => e = .returned (.bool true) ∧ Below w.heap.size w w' := by
  obtain ⟨W0, hW0⟩ : ∃ W0, W0 = w.alloc (.cells #[.int .i64 y, .int .i64 m, .int .i64 d, .int .i64 H, .int .i64 M, .int .i64 S, .int .i64 X] 35) := ⟨_, rfl⟩
  have B0 : Below w.heap.size w W0 := by rw [hW0]; exact below1 _ _
  have hw0 := hw.on B0
  have BB : Below W0.heap.size W0 W0 := Below.refl _ _
  have r0 := held4 (W := W0) (v := .int .i64 y) (a := ⟨w.heap.size, 0, none⟩) (by rw [hW0]; simp [go_sem])
  have r1 := held4 (W := W0) (v := .int .i64 m) (a := ⟨w.heap.size, 1, none⟩) (by rw [hW0]; simp [go_sem])
  have r2 := held4 (W := W0) (v := .int .i64 d) (a := ⟨w.heap.size, 2, none⟩) (by rw [hW0]; simp [go_sem])
  have r3 := held4 (W := W0) (v := .int .i64 H) (a := ⟨w.heap.size, 3, none⟩) (by rw [hW0]; simp [go_sem])
  have r4 := held4 (W := W0) (v := .int .i64 M) (a := ⟨w.heap.size, 4, none⟩) (by rw [hW0]; simp [go_sem])
  have r5 := held4 (W := W0) (v := .int .i64 S) (a := ⟨w.heap.size, 5, none⟩) (by rw [hW0]; simp [go_sem])
  have r6 := held4 (W := W0) (v := .int .i64 X) (a := ⟨w.heap.size, 6, none⟩) (by rw [hW0]; simp [go_sem])
  have HW := hide hW0
  clear hW0
  have CF := hide (fixed7 W0 hw0)
  have CT := fun w' hw' => hide (text_bad y m d H M S X w' hw' h)
  have CS := fun w' hw' => hide (spec_bad y m d H M S X w' hw' h)
  have CR := fun w' hw' => hide (right_any y m d H M S X w' hw')
  have CQ := fun w' => hide (rright_any y m d H M S X w')
  have CP := fun w' hw' => hide (parse_any s w' hw')
  have CK := fun w' => hide (rparse_any s w')
  rw [h] at CR CQ
  obtain ⟨a, b, c, j, f, g, i, hV⟩ := parseV_date s.data.toList
  obtain ⟨ok, hok⟩ : ∃ ok, parseOk s.data.toList = ok := ⟨_, rfl⟩
  rw [hV, hok] at CP CK
  clear hV hok h
  cases ok
  all_goals
  go_enter Tryd.func6, Tryd.ntmps6
  go_wp2_with (go_at_call 9; refine Hid.out ?_)
  refine hide ?_
  rw [← unhide HW]
  refine (unhide CF).mono ?_
  rintro e w1 ⟨rfl, hb1⟩
  go_wp2_with (first
    | (go_at_call 23; refine (unhide (CT _ (hw0.on (by assumption)))).mono ?_; rintro e w4 ⟨rfl, hb4⟩; have hk4 := Below.trans (by assumption) (hb4.mono (Below.size (by assumption))))
    | (go_at_call 24; refine (unhide (CS _ (hw0.on (by assumption)))).mono ?_; rintro e w4 ⟨rfl, hb4⟩; have hk4 := Below.trans (by assumption) (hb4.mono (Below.size (by assumption))))
    | (go_at_call 26; refine (unhide (CR _ (hw0.on (by assumption)))).mono ?_; rintro e w4 ⟨rfl, hb4⟩; have hk4 := Below.trans (by assumption) (hb4.mono (Below.size (by assumption))))
    | (go_at_call 25; refine (unhide (CQ _)).mono ?_; rintro e w4 ⟨rfl, hb4⟩; have hk4 := Below.trans (by assumption) (hb4.mono (Below.size (by assumption))))
    | (go_at_call 27; refine Hid.out ?_))
  refine hide ?_
  refine (unhide (CP _ (hw0.on (by assumption)))).mono ?_
  rintro e w5 ⟨rfl, hb5⟩
  have S5 : Below W0.heap.size W0 w5 := Below.trans (by assumption) (hb5.mono (Below.size (by assumption)))
  obtain ⟨W5, hW5⟩ : ∃ W5, W5 = w5.alloc (.cells #[.int .i64 a, .int .i64 b, .int .i64 c, .int .i64 j, .int .i64 f, .int .i64 g, .int .i64 i] 35) := ⟨_, rfl⟩
  have B5 : Below W0.heap.size W0 W5 := by rw [hW5]; exact S5.alloc S5.size _
  have q0 := held4 (W := W5) (v := .int .i64 a) (a := ⟨w5.heap.size, 0, none⟩) (by rw [hW5]; simp [go_sem])
  have q1 := held4 (W := W5) (v := .int .i64 b) (a := ⟨w5.heap.size, 1, none⟩) (by rw [hW5]; simp [go_sem])
  have q2 := held4 (W := W5) (v := .int .i64 c) (a := ⟨w5.heap.size, 2, none⟩) (by rw [hW5]; simp [go_sem])
  have q3 := held4 (W := W5) (v := .int .i64 j) (a := ⟨w5.heap.size, 3, none⟩) (by rw [hW5]; simp [go_sem])
  have q4 := held4 (W := W5) (v := .int .i64 f) (a := ⟨w5.heap.size, 4, none⟩) (by rw [hW5]; simp [go_sem])
  have q5 := held4 (W := W5) (v := .int .i64 g) (a := ⟨w5.heap.size, 5, none⟩) (by rw [hW5]; simp [go_sem])
  have q6 := held4 (W := W5) (v := .int .i64 i) (a := ⟨w5.heap.size, 6, none⟩) (by rw [hW5]; simp [go_sem])
  have HW5 := hide hW5
  clear hW5
  go_wp2_with (first
    | (go_at_call 30; refine Hid.out ?_))
  refine hide ?_
  rw [← unhide HW5]
  refine (unhide (CK _)).mono ?_
  rintro e w6 ⟨rfl, hb6⟩
  have S6 := hb6.alloc hb6.size (.cells #[.int .i64 a, .int .i64 b, .int .i64 c, .int .i64 j, .int .i64 f, .int .i64 g, .int .i64 i] 35)
  have S7 := B5.trans (S6.mono B5.size)
  go_wp2_with fail
  go_ret
  exact ⟨rfl, B0.trans (Below.mono (B := W0.heap.size) (by assumption) B0.size)⟩
set_option maxRecDepth 100000 in
set_option maxHeartbeats 4000000 in
theorem texts_good (y m d H M S X : Int) (s : ByteArray) (w : World) (hw : CTab w) (h : rB y m d H M S X = true) (hs : s.size ≤ 60) :
    Calls Tryd.prog 6 #[dateV y m d H M S X, .string s] w fun e w' => e = .returned (.bool true) ∧ Below w.heap.size w w' := by
  obtain ⟨W0, hW0⟩ : ∃ W0, W0 = w.alloc (.cells #[.int .i64 y, .int .i64 m, .int .i64 d, .int .i64 H, .int .i64 M, .int .i64 S, .int .i64 X] 35) := ⟨_, rfl⟩
  have B0 : Below w.heap.size w W0 := by rw [hW0]; exact below1 _ _
  have hw0 := hw.on B0
  have BB : Below W0.heap.size W0 W0 := Below.refl _ _
  have r0 := held4 (W := W0) (v := .int .i64 y) (a := ⟨w.heap.size, 0, none⟩) (by rw [hW0]; simp [go_sem])
  have r1 := held4 (W := W0) (v := .int .i64 m) (a := ⟨w.heap.size, 1, none⟩) (by rw [hW0]; simp [go_sem])
  have r2 := held4 (W := W0) (v := .int .i64 d) (a := ⟨w.heap.size, 2, none⟩) (by rw [hW0]; simp [go_sem])
  have r3 := held4 (W := W0) (v := .int .i64 H) (a := ⟨w.heap.size, 3, none⟩) (by rw [hW0]; simp [go_sem])
  have r4 := held4 (W := W0) (v := .int .i64 M) (a := ⟨w.heap.size, 4, none⟩) (by rw [hW0]; simp [go_sem])
  have r5 := held4 (W := W0) (v := .int .i64 S) (a := ⟨w.heap.size, 5, none⟩) (by rw [hW0]; simp [go_sem])
  have r6 := held4 (W := W0) (v := .int .i64 X) (a := ⟨w.heap.size, 6, none⟩) (by rw [hW0]; simp [go_sem])
  have HW := hide hW0
  clear hW0
  have hr := (rB_iff ..).1 h
  have hn := num_bd hr.1
  have CF := hide (fixed7 W0 hw0)
  have CT := fun w' hw' => hide (text_good y m d H M S X w' hw' h)
  have CU := fun w' => hide (rtext_any y m d H M S X w' h)
  have CS := fun w' hw' => hide (spec_good y m d H M S X w' hw' h)
  have CR := fun w' hw' => hide (right_any y m d H M S X w' hw')
  have CQ := fun w' => hide (rright_any y m d H M S X w')
  have CN := fun w' => hide (rnumber_good y m d w' hr.1)
  have CPT := fun w' hw' => hide (parse_text y m d H M S X w' hw' h)
  have CD := fun w' => hide (date_spec y m d H M S X w' h)
  have CP := fun w' hw' => hide (parse_any s w' hw')
  have CK := fun w' => hide (rparse_any s w')
  rw [h] at CR CQ
  have hq : ((numZ y m d * 24 + H) * 60 + M) * 60 + S = secZ y m d H M S := by unfold secZ; omega
  obtain ⟨hr1, hr2⟩ := hr
  clear hr1
  obtain ⟨K, hK⟩ : ∃ K, numZ y m d = K := ⟨_, rfl⟩
  obtain ⟨Q, hQ⟩ : ∃ K, secZ y m d H M S = K := ⟨_, rfl⟩
  obtain ⟨T, hT⟩ : ∃ K, textS y m d H M S X = K := ⟨_, rfl⟩
  rw [hK] at CN hn hq
  rw [hQ] at CS CD hq
  rw [hT] at CT CU CPT
  clear hK hQ hT
  obtain ⟨a, b, c, j, f, g, i, hV⟩ := parseV_date s.data.toList
  obtain ⟨ok, hok⟩ : ∃ ok, parseOk s.data.toList = ok := ⟨_, rfl⟩
  rw [hV, hok] at CP CK
  clear hV hok h
  cases ok
  all_goals
  go_enter Tryd.func6, Tryd.ntmps6
  go_wp2_with (go_at_call 9; refine Hid.out ?_)
  refine hide ?_
  rw [← unhide HW]
  refine (unhide CF).mono ?_
  rintro e w1 ⟨rfl, hb1⟩
  go_wp2_with (first
    | (go_at_call 23; refine (unhide (CT _ (hw0.on (by assumption)))).mono ?_; rintro e w4 ⟨rfl, hb4⟩; have hk4 := Below.trans (by assumption) (hb4.mono (Below.size (by assumption))))
    | (go_at_call 24; refine (unhide (CS _ (hw0.on (by assumption)))).mono ?_; rintro e w4 ⟨rfl, hb4⟩; have hk4 := Below.trans (by assumption) (hb4.mono (Below.size (by assumption))))
    | (go_at_call 26; refine (unhide (CR _ (hw0.on (by assumption)))).mono ?_; rintro e w4 ⟨rfl, hb4⟩; have hk4 := Below.trans (by assumption) (hb4.mono (Below.size (by assumption))))
    | (go_at_call 25; refine (unhide (CQ _)).mono ?_; rintro e w4 ⟨rfl, hb4⟩; have hk4 := Below.trans (by assumption) (hb4.mono (Below.size (by assumption))))
    | (go_at_call 16; refine (unhide (CN _)).mono ?_; rintro e w4 ⟨rfl, hb4⟩; have hk4 := Below.trans (by assumption) (hb4.mono (Below.size (by assumption))))
    | (go_at_call 27; refine Hid.out ?_))
  refine hide ?_
  refine (unhide (CPT _ (hw0.on (by assumption)))).mono ?_
  rintro e w2 ⟨rfl, hb2⟩
  have S2 : Below W0.heap.size W0 w2 := Below.trans (by assumption) (hb2.mono (Below.size (by assumption)))
  obtain ⟨W2, hW2⟩ : ∃ W2, W2 = w2.alloc (.cells #[.int .i64 y, .int .i64 m, .int .i64 d, .int .i64 H, .int .i64 M, .int .i64 S, .int .i64 X] 35) := ⟨_, rfl⟩
  have B2 : Below W0.heap.size W0 W2 := by rw [hW2]; exact S2.alloc S2.size _
  have s0 := held4 (W := W2) (v := .int .i64 y) (a := ⟨w2.heap.size, 0, none⟩) (by rw [hW2]; simp [go_sem])
  have s1 := held4 (W := W2) (v := .int .i64 m) (a := ⟨w2.heap.size, 1, none⟩) (by rw [hW2]; simp [go_sem])
  have s2 := held4 (W := W2) (v := .int .i64 d) (a := ⟨w2.heap.size, 2, none⟩) (by rw [hW2]; simp [go_sem])
  have s3 := held4 (W := W2) (v := .int .i64 H) (a := ⟨w2.heap.size, 3, none⟩) (by rw [hW2]; simp [go_sem])
  have s4 := held4 (W := W2) (v := .int .i64 M) (a := ⟨w2.heap.size, 4, none⟩) (by rw [hW2]; simp [go_sem])
  have s5 := held4 (W := W2) (v := .int .i64 S) (a := ⟨w2.heap.size, 5, none⟩) (by rw [hW2]; simp [go_sem])
  have s6 := held4 (W := W2) (v := .int .i64 X) (a := ⟨w2.heap.size, 6, none⟩) (by rw [hW2]; simp [go_sem])
  have HW2 := hide hW2
  clear hW2
  go_wp2_with (first
    | (go_at_call 28; refine Hid.out ?_))
  refine hide ?_
  rw [← unhide HW2]
  refine (unhide (CD _)).mono ?_
  rintro e w3 ⟨rfl, hb3⟩
  have B23' : Below W2.heap.size W2 (w3.alloc (.cells #[.int .i64 y, .int .i64 m, .int .i64 d, .int .i64 H, .int .i64 M, .int .i64 S, .int .i64 X] 35)) := hb3.alloc hb3.size _
  have B3' : Below W0.heap.size W0 (w3.alloc (.cells #[.int .i64 y, .int .i64 m, .int .i64 d, .int .i64 H, .int .i64 M, .int .i64 S, .int .i64 X] 35)) := B2.trans (B23'.mono B2.size)
  obtain ⟨W3, hW3⟩ : ∃ W3, W3 = w3.alloc (.cells #[.int .i64 y, .int .i64 m, .int .i64 d, .int .i64 H, .int .i64 M, .int .i64 S, .int .i64 X] 35) := ⟨_, rfl⟩
  have B23 : Below W2.heap.size W2 W3 := by rw [hW3]; exact hb3.alloc hb3.size _
  have B3 : Below W0.heap.size W0 W3 := B2.trans (B23.mono B2.size)
  have B33 := Below.refl W3.heap.size W3
  have t0 := held4 (W := W3) (v := .int .i64 y) (a := ⟨w3.heap.size, 0, none⟩) (by rw [hW3]; simp [go_sem])
  have t1 := held4 (W := W3) (v := .int .i64 m) (a := ⟨w3.heap.size, 1, none⟩) (by rw [hW3]; simp [go_sem])
  have t2 := held4 (W := W3) (v := .int .i64 d) (a := ⟨w3.heap.size, 2, none⟩) (by rw [hW3]; simp [go_sem])
  have t3 := held4 (W := W3) (v := .int .i64 H) (a := ⟨w3.heap.size, 3, none⟩) (by rw [hW3]; simp [go_sem])
  have t4 := held4 (W := W3) (v := .int .i64 M) (a := ⟨w3.heap.size, 4, none⟩) (by rw [hW3]; simp [go_sem])
  have t5 := held4 (W := W3) (v := .int .i64 S) (a := ⟨w3.heap.size, 5, none⟩) (by rw [hW3]; simp [go_sem])
  have t6 := held4 (W := W3) (v := .int .i64 X) (a := ⟨w3.heap.size, 6, none⟩) (by rw [hW3]; simp [go_sem])
  have HW3 := hide hW3
  clear hW3
  go_wp2_with (first
    | (go_at_call 29; refine Hid.out ?_))
  refine hide ?_
  rw [← unhide HW3]
  refine (unhide (CU _)).mono ?_
  rintro e w4 ⟨rfl, hb4⟩
  have S24 : Below W2.heap.size W2 w4 := B23.trans (hb4.mono B23.size)
  have S4 : Below W0.heap.size W0 w4 := B3.trans (hb4.mono B3.size)
  go_wp2_with (first
    | (go_at_call 27; refine Hid.out ?_))
  refine hide ?_
  refine (unhide (CP _ (hw0.on (by assumption)))).mono ?_
  rintro e w5 ⟨rfl, hb5⟩
  have S5 : Below W0.heap.size W0 w5 := Below.trans (by assumption) (hb5.mono (Below.size (by assumption)))
  obtain ⟨W5, hW5⟩ : ∃ W5, W5 = w5.alloc (.cells #[.int .i64 a, .int .i64 b, .int .i64 c, .int .i64 j, .int .i64 f, .int .i64 g, .int .i64 i] 35) := ⟨_, rfl⟩
  have B5 : Below W0.heap.size W0 W5 := by rw [hW5]; exact S5.alloc S5.size _
  have q0 := held4 (W := W5) (v := .int .i64 a) (a := ⟨w5.heap.size, 0, none⟩) (by rw [hW5]; simp [go_sem])
  have q1 := held4 (W := W5) (v := .int .i64 b) (a := ⟨w5.heap.size, 1, none⟩) (by rw [hW5]; simp [go_sem])
  have q2 := held4 (W := W5) (v := .int .i64 c) (a := ⟨w5.heap.size, 2, none⟩) (by rw [hW5]; simp [go_sem])
  have q3 := held4 (W := W5) (v := .int .i64 j) (a := ⟨w5.heap.size, 3, none⟩) (by rw [hW5]; simp [go_sem])
  have q4 := held4 (W := W5) (v := .int .i64 f) (a := ⟨w5.heap.size, 4, none⟩) (by rw [hW5]; simp [go_sem])
  have q5 := held4 (W := W5) (v := .int .i64 g) (a := ⟨w5.heap.size, 5, none⟩) (by rw [hW5]; simp [go_sem])
  have q6 := held4 (W := W5) (v := .int .i64 i) (a := ⟨w5.heap.size, 6, none⟩) (by rw [hW5]; simp [go_sem])
  have HW5 := hide hW5
  clear hW5
  go_wp2_with (first
    | (go_at_call 30; refine Hid.out ?_))
  refine hide ?_
  rw [← unhide HW5]
  refine (unhide (CK _)).mono ?_
  rintro e w6 ⟨rfl, hb6⟩
  have S6 := hb6.alloc hb6.size (.cells #[.int .i64 a, .int .i64 b, .int .i64 c, .int .i64 j, .int .i64 f, .int .i64 g, .int .i64 i] 35)
  have S7 := B5.trans (S6.mono B5.size)
  go_wp2_with fail
  go_ret
  exact ⟨rfl, B0.trans (Below.mono (B := W0.heap.size) (by assumption) B0.size)⟩

set_option maxHeartbeats 4000000 in
theorem texts_long (y m d H M S X : Int) (s : ByteArray) (w : World) (hw : CTab w) (hs : 60 < s.size) :
    Calls Tryd.prog 6 #[dateV y m d H M S X, .string s] w fun e w' => e = .returned (.bool true) ∧ Below w.heap.size w w' := by
  obtain ⟨W0, hW0⟩ : ∃ W0, W0 = w.alloc (.cells #[.int .i64 y, .int .i64 m, .int .i64 d, .int .i64 H, .int .i64 M, .int .i64 S, .int .i64 X] 35) := ⟨_, rfl⟩
  have B0 : Below w.heap.size w W0 := by rw [hW0]; exact below1 _ _
  have hw0 := hw.on B0
  have HW := hide hW0
  clear hW0
  have CF := hide (fixed7 W0 hw0)
  have hs2 : (60 : Int) < (s.size : Int) := by omega
  go_enter Tryd.func6, Tryd.ntmps6
  go_wp2_with (go_at_call 9; refine Hid.out ?_)
  refine hide ?_
  rw [← unhide HW]
  refine (unhide CF).mono ?_
  rintro e w1 ⟨rfl, hb1⟩
  go_wp2_with fail
  go_ret
  exact ⟨rfl, B0.trans (Below.mono (B := W0.heap.size) (by assumption) B0.size)⟩
theorem texts_walk (y m d H M S X : Int) (s : ByteArray) (w : World) (hw : CTab w) :
    Calls Tryd.prog 6 #[dateV y m d H M S X, .string s] w fun e w' => e = .returned (.bool true) ∧ Below w.heap.size w w' := by
  by_cases hs : s.size ≤ 60
  · cases h : rB y m d H M S X
    · exact texts_bad y m d H M S X s w hw h hs
    · exact texts_good y m d H M S X s w hw h hs
  · exact texts_long y m d H M S X s w hw (by omega)
end Go.Proofs.YtjngnmpjkiafpaaDoor
