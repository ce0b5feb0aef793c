import Derived.Test.YtkglaklkbodjkaaL11GRow
import Derived.Test.YtkglaklkbodjkaaCk7
import Derived.BigRegion
namespace Go.Proofs.Ytkglaklkbodjkaa
open Go.RowKit Kt
set_option linter.unusedVariables false

theorem belowN (w : World) (n : Nat) : Below w.heap.size w (w.drewN n) := ⟨rfl, rfl, rfl, Nat.le_refl _, fun _ _ => rfl⟩
/-- A clock and the law's counts. -/
structure CP (B : Nat) (w0 w : World) (g p : Nat) (z : KS) (l : Int) : Prop where
  cb : CBs B w0 w g z
  pl : Pl w p z l
  sl : SL z l
  ne : p ≠ g
  ge : B ≤ p
theorem CP.below {B : Nat} {w0 w w' : World} {g p : Nat} {z : KS} {l : Int} (h : CP B w0 w g p z l) (hb : Below w.heap.size w w') : CP B w0 w' g p z l :=
  ⟨CB.below h.cb hb, Blk.below h.pl hb (Blk.lt h.pl), h.sl, h.ne, h.ge⟩
theorem CBs.tch {B : Nat} {w0 w w' : World} {g p : Nat} {z : KS} (h : CBs B w0 w g z) (ht : Tch p w w') (hne : g ≠ p) (hp : B ≤ p) : CBs B w0 w' g z :=
  ⟨Blk.tch h.clk ht hne, h.nums, ht.low h.low hp h.sz, h.ge, Nat.le_trans h.sz ht.size⟩
theorem actK_n (κ k : Int) (z : KS) : (actK κ k z).2.n ≤ z.n + 1 := by
  unfold actK
  split
  · exact (goes_0 k z).2
  · split
    · exact (goes_to k z 0).2
    · split
      · exact (goes_to (z.v + k) z 0).2
      · split
        · exact (goes_3 z).2
        · unfold act4
          split
          · show (if z.c = z.q then z.n else z.n + 1) ≤ z.n + 1
            split <;> omega
          · show z.n ≤ z.n + 1; omega
set_option maxRecDepth 100000 in
set_option maxHeartbeats 1000000 in
theorem lplays11_long (p : Option Addr) (len cap : Nat) (which t : Int) (w : World) (hlen : 100 < len) :
    Calls Try.prog 6 #[.slice p len cap, .int .i64 which, .int .i64 t] w fun e w' => e = .returned (.bool true) ∧ Below w.heap.size w w' := by
  have CF := hide (fixed11 w)
  have hl2 : (100 : Int) < ((len : Nat) : Int) := by omega
  go_enter Try.func6, Try.ntmps6
  go_wp2_with (go_at_call 21; refine (unhide CF).mono ?_; rintro e w1 ⟨rfl, hb1⟩)
  go_ret
  exact ⟨rfl, hb1⟩
set_option maxRecDepth 100000 in
set_option maxHeartbeats 16000000 in
theorem lplays11_short (p : Option Addr) (len cap : Nat) (kd kn : Nat → Int) (which t : Int) (w : World) (hlen : len ≤ 100)
    (hk : ∀ i, i < len → 0 ≤ kd i ∧ kd i ≤ 255)
    (hc : ∀ i, i < len → ∃ x, p = some x ∧ x.block < w.heap.size ∧ w.cell? (x.add (i * 2)) = some (.int .u8 (kd i)) ∧ w.cell? (x.add (i * 2 + 1)) = some (.int .i64 (kn i))) :
    Calls Try.prog 6 #[.slice p len cap, .int .i64 which, .int .i64 t] w fun e w' => e = .returned (.bool true) ∧ Below w.heap.size w w' := by
  have CF := hide (fixed11 w)
  have CN := fun w' => hide (cnew_any w')
  obtain ⟨B, hB⟩ : ∃ B, w.heap.size = B := ⟨_, rfl⟩
  rw [hB] at hc
  have hc := hide hc
  have hk := hide hk
  have hl2 : ((len : Nat) : Int) ≤ 100 := by omega
  go_enter Try.func6, Try.ntmps6
  go_wp2_with (first | (go_at_call 21; refine (unhide CF).mono ?_; rintro e w1 ⟨rfl, hb1⟩) | (go_at_call 22; refine Hid.out ?_))
  refine hide ?_
  refine (unhide (CN _)).mono ?_
  rintro e w2 ⟨rfl, d2, hb2⟩
  rw [hB] at hb1
  obtain ⟨g, hg⟩ : ∃ g, w1.heap.size = g := ⟨_, rfl⟩
  have HH0 : CBs B w w2 g ⟨0, 0, 0, 0, false, 0⟩ := CB.new hb1 (by have := hb1.size; omega) hg.symm (by rw [← hg]; exact d2) hb2
  rw [hg] at d2 hb2 ⊢
  obtain ⟨pp, hpp⟩ : ∃ pp, w2.heap.size = pp := ⟨_, rfl⟩
  obtain ⟨W2, hW2⟩ : ∃ W2, W2 = w2.alloc (.cells #[.int .i64 0, .int .i64 0, .int .i64 0, .int .i64 0, .int .i64 0, .int .i64 0, .bool false] 55) := ⟨_, rfl⟩
  have HC0 : Hid (CP B w W2 g pp ⟨0, 0, 0, 0, false, 0⟩ 0) := hide (by
    have h1 : CBs B w W2 g ⟨0, 0, 0, 0, false, 0⟩ := by rw [hW2]; exact CB.below HH0 (below_alloc1 _ _)
    have h2 : Pl W2 pp ⟨0, 0, 0, 0, false, 0⟩ 0 := by rw [hW2]; exact Blk.new_at _ _ _ hpp.symm
    have h3 := Blk.lt HH0.clk
    have h4 := HH0.sz
    exact ⟨h1, h2, ⟨by decide, by decide, (fun h => by cases h), fun _ => rfl⟩, by omega, by omega⟩)
  have HW2 := hide hW2
  clear d2 hb1 hb2 CF CN HH0 hW2
  go_upto_region 7 with fail
  rw [← unhide HW2]
  go_wp2_with fail
  clear HW2
  go_loopw [31] (fun d w' => ∃ (i : Nat) (z : KS) (l : Int), d = .int .i64 (i : Int) ∧ i ≤ len ∧ Hid (CP B w w' g pp z l ∧ z.n ≤ i)) (fun d _ => len - (intOf d).toNat)
  case atStart => exact ⟨0, ⟨0, 0, 0, 0, false, 0⟩, 0, rfl, by omega, hide ⟨unhide HC0, by decide⟩⟩
  case round =>
    obtain ⟨i, z, l, rfl, hi, HI⟩ := hrel
    by_cases hlt : i < len
    · obtain ⟨x, rfl, hx, hc0, hc1⟩ := (unhide hc) i hlt
      have hol : ∀ k u, k ≠ 0 → w.cell? (x.add (i * 2 + k)) = some u → wr.cell? ⟨(x.add (i * 2)).block, (x.add (i * 2)).off + k, none⟩ = some u := fun k u hk0 h => by
        have e2 : wr.cell? (x.add (i * 2 + k)) = some u := by rw [(unhide HI).1.cb.low.cell (p := x.add (i * 2 + k)) (by unfold Addr.add; split <;> exact hx)]; exact h
        rw [← Go.Deep.add_add] at e2
        unfold Addr.add at e2
        rw [if_neg hk0] at e2
        exact e2
      have e0 : wr.cell? (x.add (i * 2)) = some (.int .u8 (kd i)) := by rw [(unhide HI).1.cb.low.cell (p := x.add (i * 2)) (by unfold Addr.add; split <;> exact hx)]; exact hc0
      have e1 := hol 1 _ (by omega) hc1
      have hkd := (unhide hk) i hlt
      clear hc0 hc1 hol HC0
      generalize kd i = K at *
      generalize kn i = Nw at *
      obtain ⟨bx, hbx⟩ : ∃ b, wr.heap.size = b := ⟨_, rfl⟩
      obtain ⟨W3, hW3⟩ : ∃ W3, W3 = wr.alloc (.cells #[.int .u8 K, .int .i64 Nw] 57) := ⟨_, rfl⟩
      have b3 : Below wr.heap.size wr W3 := by rw [hW3]; exact below_alloc1 _ _
      have kb3 : Blk W3 bx 57 #[.int .u8 K, .int .i64 Nw] := by rw [hW3]; exact Blk.new_at _ _ _ hbx.symm
      have hgx : bx ≠ g := by have := Blk.lt (unhide HI).1.cb.clk; omega
      have hn9 : z.n ≤ 900 := by have := (unhide HI).2; omega
      have H3 : Hid (CP B w W3 g pp z l ∧ Blk W3 bx 57 #[.int .u8 K, .int .i64 Nw] ∧ bx ≠ g ∧ z.n ≤ i ∧ z.n ≤ 900) := hide ⟨(unhide HI).1.below b3, kb3, hgx, (unhide HI).2, hn9⟩
      have e6 : K.tmod 5 = K % 5 := Int.tmod_eq_emod_of_nonneg hkd.1
      have hmd : K % 5 = 0 ∨ K % 5 = 1 ∨ K % 5 = 2 ∨ K % 5 = 3 ∨ K % 5 = 4 := by omega
      have HW3 := hide hW3
      clear HI b3 kb3 hgx hW3 hn9
      go_upto_block 2 with fail
      go_cut [11, 37] (fun s11 _ wx => s11 = .int .i64 (actK (K % 5) Nw z).1 ∧ Hid (CBs B w wx g (actK (K % 5) Nw z).2 ∧ Tch g W3 wx))
      case first =>
        rcases hmd with hmd | hmd | hmd | hmd | hmd
        · as_aux_lemma =>
            have C := hide (badv (unhide H3).1.cb Nw)
            have HA := hide (act_0 (k := Nw) (z := z) hmd)
            go_wp2_with (go_at_call 23; refine Hid.out ?_)
            refine hide ?_
            rw [← unhide HW3]
            refine (unhide C).mono ?_
            rintro e w5 ⟨rfl, d5, t5⟩
            have HX := hide (And.intro d5 t5)
            clear d5 t5 C
            go_wp2_with fail
            go_meet
            rw [unhide HA]
            exact ⟨rfl, HX⟩
        · as_aux_lemma =>
            have C := hide (bset (unhide H3).1.cb (unhide H3).2.2.2.2 Nw)
            have HA := hide (act_1 (k := Nw) (z := z) hmd)
            go_wp2_with (go_at_call 24; refine Hid.out ?_)
            refine hide ?_
            rw [← unhide HW3]
            refine (unhide C).mono ?_
            rintro e w5 ⟨rfl, d5, t5⟩
            have HX := hide (And.intro d5 t5)
            clear d5 t5 C
            go_wp2_with fail
            go_meet
            rw [unhide HA]
            exact ⟨rfl, HX⟩
        · as_aux_lemma =>
            have C := hide (badj (unhide H3).1.cb (unhide H3).2.2.2.2 Nw)
            have HA := hide (act_2 (k := Nw) (z := z) hmd)
            go_wp2_with (go_at_call 25; refine Hid.out ?_)
            refine hide ?_
            rw [← unhide HW3]
            refine (unhide C).mono ?_
            rintro e w5 ⟨rfl, d5, t5⟩
            have HX := hide (And.intro d5 t5)
            clear d5 t5 C
            go_wp2_with fail
            go_meet
            rw [unhide HA]
            exact ⟨rfl, HX⟩
        · as_aux_lemma =>
            have C := hide (bsusp (unhide H3).1.cb)
            have HA := hide (act_3 (k := Nw) (z := z) hmd)
            go_wp2_with (go_at_call 26; refine Hid.out ?_)
            refine hide ?_
            rw [← unhide HW3]
            refine (unhide C).mono ?_
            rintro e w5 ⟨rfl, d5, t5⟩
            have HX := hide (And.intro d5 t5)
            clear d5 t5 C
            go_wp2_with fail
            go_meet
            rw [unhide HA]
            exact ⟨rfl, HX⟩
        · as_aux_lemma =>
            have C := hide (bresume (unhide H3).1.cb (unhide H3).2.2.2.2)
            have HA := hide (act_4 (k := Nw) (z := z) hmd)
            go_wp2_with (go_at_call 27; refine Hid.out ?_)
            refine hide ?_
            rw [← unhide HW3]
            refine (unhide C).mono ?_
            rintro e w5 ⟨rfl, d5, t5⟩
            have HX := hide (And.intro d5 t5)
            clear d5 t5 C
            go_wp2_with fail
            go_meet
            rw [unhide HA]
            exact ⟨rfl, HX⟩
      case rest => as_aux_lemma =>
        obtain ⟨rfl, H4⟩ := hcut
        have hp4 : Pl wc pp z l := Blk.tch (unhide H3).1.pl (unhide H4).2 (unhide H3).1.ne
        have hb4 := (unhide H3).2.1.tch (unhide H4).2 (unhide H3).2.2.1
        have k0 := hb4.cell 0
        have k1 := hb4.cell 1
        have CD := hide (do_any wc z l K Nw hp4 (unhide H3).1.cb.nums (unhide H3).1.sl hkd.1)
        have hnx := actK_n (K % 5) Nw z
        have HN : Hid ((actK (K % 5) Nw z).2.n ≤ ((i + 1 : Nat) : Int)) := hide (by have := (unhide H3).2.2.2.1; omega)
        have HP : Hid (pp ≠ g ∧ B ≤ pp) := hide ⟨(unhide H3).1.ne, (unhide H3).1.ge⟩
        have HC4 : Hid (CBs B w wc g (actK (K % 5) Nw z).2) := hide (unhide H4).1
        clear hnx hp4 hb4 H3 H4 HW3 e0 e1 hmd e6 hbx
        generalize actK (K % 5) Nw z = AK at *
        obtain ⟨E, c', m', v', q', s', n'⟩ := AK
        simp only at CD HN HC4 ⊢
        go_wp2_with (go_at_call 28; refine Hid.out ?_)
        refine hide ?_
        refine (unhide CD).mono ?_
        rintro e w6 ⟨rfl, ⟨l', p6, s6⟩, t6⟩
        have H6 : Hid (CP B w w6 g pp ⟨c', m', v', q', s', n'⟩ l' ∧ n' ≤ ((i + 1 : Nat) : Int)) := hide ⟨⟨CBs.tch (unhide HC4) t6 (fun e => (unhide HP).1 e.symm) (unhide HP).2, p6, s6, (unhide HP).1, (unhide HP).2⟩, unhide HN⟩
        have HK := hide hkd
        clear CD p6 s6 t6 HC4 HN HP k0 k1 hkd
        have c1 := (unhide H6).1.pl.c1
        have c2 := (unhide H6).1.pl.c2
        have c3 := (unhide H6).1.pl.c3
        obtain ⟨b7, hb7⟩ : ∃ b, w6.heap.size = b := ⟨_, rfl⟩
        go_wp2_with fail
        go_region
        go_wp2_with fail
        obtain ⟨W7, hW7⟩ : ∃ W7, W7 = (w6.alloc (.cells #[.int .i64 m', .int .i64 v', .int .i64 q'] 3)).drew := ⟨_, rfl⟩
        have hb67 : Below w6.heap.size w6 W7 := by rw [hW7]; exact (below_alloc1 _ _).drew
        have kb7 : Blk W7 b7 3 #[.int .i64 m', .int .i64 v', .int .i64 q'] := by rw [hW7]; exact Blk.new_at w6 _ _ hb7.symm
        have H7 := hide (And.intro ((unhide H6).1.below hb67) (unhide H6).2)
        rw [← hW7]
        have x0 := kb7.cell 0
        have x1 := kb7.cell 1
        have x2 := kb7.cell 2
        clear hW7 hb67 kb7 H6 c1 c2 c3
        have hkl : Clk W7 g c' m' (v' - m') (q' - m') s' n' := (unhide H7).1.cb.clk
        have hnm : Nums c' m' v' q' n' := (unhide H7).1.cb.nums
        have y0 := (unhide H7).1.pl.c0
        have y1 := (unhide H7).1.pl.c1
        have y5 := (unhide H7).1.pl.c5
        have y6 := (unhide H7).1.pl.c6
        have N0 := hide (nowR W7 hkl hnm 0 (by decide) (by decide))
        have N1 := hide (nowR W7 hkl hnm 1 (by decide) (by decide))
        have N2 := hide (nowR W7 hkl hnm 2 (by decide) (by decide))
        rw [if_neg (by decide), if_neg (by decide)] at N0
        rw [if_pos rfl] at N1
        rw [if_neg (by decide), if_pos rfl] at N2
        have O0 : Hid (Calls Try.prog 30 #[.pointer (some ⟨g, 0, none⟩), .int .i64 0] W7 fun e w' => e = .returned (.tuple #[.int .i64 0, .bool true]) ∧ w' = W7) := hide (offset_in W7 hkl 0 (by decide) (by decide))
        have O1 : Hid (Calls Try.prog 30 #[.pointer (some ⟨g, 0, none⟩), .int .i64 1] W7 fun e w' => e = .returned (.tuple #[.int .i64 (v' - m'), .bool true]) ∧ w' = W7) := hide (offset_in W7 hkl 1 (by decide) (by decide))
        have O2 : Hid (Calls Try.prog 30 #[.pointer (some ⟨g, 0, none⟩), .int .i64 2] W7 fun e w' => e = .returned (.tuple #[.int .i64 (q' - m'), .bool true]) ∧ w' = W7) := hide (offset_in W7 hkl 2 (by decide) (by decide))
        have QC := hide (fun k => counter_any (W7.drewN k) (hkl.below (belowN _ k)))
        have QS := hide (fun k => suspd_any (W7.drewN k) (hkl.below (belowN _ k)))
        have QG := hide (fun k => cgen_any (W7.drewN k) (hkl.below (belowN _ k)))
        obtain ⟨a1, a2, a3, a4, a5, a6, a7, a8⟩ := hnm
        have a9 : m' ≤ 1152921504606846976 := by omega
        have a10 : v' ≤ 2305843009213693952 := by omega
        have a11 : 0 ≤ q' := by omega
        have a12 : q' ≤ 1152921504606846976 := by omega
        have a13 : -1152921504606846976 ≤ v' - m' := by omega
        clear hkl a2 a3 a4 a6 a7 a8
        go_loop [83] (fun s83 => ∃ j : Nat, s83 = .int .i64 (j : Int) ∧ j ≤ 3) (fun s83 => 3 - (intOf s83).toNat)
        case atStart => exact ⟨0, rfl, by omega⟩
        case round =>
          obtain ⟨j, rfl, hj⟩ := hrel
          rcases (show j = 0 ∨ j = 1 ∨ j = 2 ∨ j = 3 by omega) with rfl | rfl | rfl | rfl
          · clear N1 N2 O1 O2
            go_wp2_with (first | (go_at_call 29; refine (unhide N0).mono ?_; rintro e w8 ⟨rfl, rfl⟩) | (go_at_call 30; refine (unhide O0).mono ?_; rintro e w9 ⟨rfl, rfl⟩))
            go_round
            case rel => exact ⟨1, by go_num, by omega⟩
            case measure => simp [intOf]
          · clear N0 N2 O0 O2
            go_wp2_with (first | (go_at_call 29; refine (unhide N1).mono ?_; rintro e w8 ⟨rfl, rfl⟩) | (go_at_call 30; refine (unhide O1).mono ?_; rintro e w9 ⟨rfl, rfl⟩))
            go_round
            case rel => exact ⟨2, by go_num, by omega⟩
            case measure => simp [intOf]
          · clear N0 N1 O0 O1
            go_wp2_with (first | (go_at_call 29; refine (unhide N2).mono ?_; rintro e w8 ⟨rfl, rfl⟩) | (go_at_call 30; refine (unhide O2).mono ?_; rintro e w9 ⟨rfl, rfl⟩))
            go_round
            case rel => exact ⟨3, by go_num, by omega⟩
            case measure => simp [intOf]
          · clear N0 N1 N2 O0 O1 O2
            go_wp2_with fail
            go_quiet (first | (go_at_call 31; exact Calls.quiet_of_same (unhide QC _)) | (go_at_call 32; exact Calls.quiet_of_same (unhide QS _)) | (go_at_call 33; exact Calls.quiet_of_same (unhide QG _)))
            go_wp2_with fail
            go_roundw
            case rel => exact ⟨i + 1, ⟨c', m', v', q', s', n'⟩, l', by go_num, by omega, hide ⟨(unhide H7).1.below (belowN _ _), (unhide H7).2⟩⟩
            case measure => simp [intOf]; omega
    · obtain rfl : i = len := by omega
      have HE : Hid (CP B w wr g pp z l) := hide (unhide HI).1
      clear HI HC0
      obtain ⟨c', m', v', q', s', n'⟩ := z
      have hkl : Clk wr g c' m' (v' - m') (q' - m') s' n' := (unhide HE).cb.clk
      have hnm : Nums c' m' v' q' n' := (unhide HE).cb.nums
      by_cases hw : which < 0 ∨ 2 < which
      · have CO := hide (cnow_out wr g which hw)
        have CT := hide (tomono_out wr g which t hw)
        clear hkl hnm
        rcases hw with hw | hw
        · go_wp2_with (first | (go_at_call 29; refine (unhide CO).mono ?_; rintro e w8 ⟨rfl, rfl⟩) | (go_at_call 34; refine (unhide CT).mono ?_; rintro e w9 ⟨rfl, rfl⟩))
          go_ret
          exact ⟨rfl, by rw [hB]; exact (unhide HE).cb.low⟩
        · have hw2 : decide (which < 0) = false := decide_eq_false (by omega)
          go_wp2_with (first | (go_at_call 29; refine (unhide CO).mono ?_; rintro e w8 ⟨rfl, rfl⟩) | (go_at_call 34; refine (unhide CT).mono ?_; rintro e w9 ⟨rfl, rfl⟩))
          go_ret
          exact ⟨rfl, by rw [hB]; exact (unhide HE).cb.low⟩
      · have h3 := (unhide HE).pl.c1
        have h4 := (unhide HE).pl.c2
        have h5 := (unhide HE).pl.c3
        obtain ⟨a1, a2, a3, a4, a5, a6, a7, a8⟩ := hnm
        have a9 : m' ≤ 1152921504606846976 := by omega
        have a10 : v' ≤ 2305843009213693952 := by omega
        have a11 : 0 ≤ q' := by omega
        have a12 : q' ≤ 1152921504606846976 := by omega
        clear a2 a3 a4 a6 a7 a8
        obtain ⟨b7, hb7⟩ : ∃ b, wr.heap.size = b := ⟨_, rfl⟩
        have CT := hide (fun k o (h0 : 0 ≤ k) (h2 : k ≤ 2) (ho : offK k (v' - m') (q' - m') = o) w' (hb : Below wr.heap.size wr w') => tomono_in w' (hkl.below hb) k t h0 h2 o ho)
        have RS := hide (fun o w' => rsub_any t o w')
        clear hkl
        rcases (show which = 0 ∨ which = 1 ∨ which = 2 by omega) with rfl | rfl | rfl
        · as_aux_lemma =>
            have CT2 := hide (unhide CT 0 0 (by decide) (by decide) rfl)
            have RS2 := hide (unhide RS 0)
            obtain ⟨Z, hZ⟩ : ∃ Z, subZ t 0 = Z := ⟨_, rfl⟩
            rw [hZ] at CT2 RS2
            clear CT RS hZ hw
            go_wp2_with fail
            go_region
            go_wp2_with (first | (go_at_call 34; refine (unhide CT2 _ ((below_alloc1 _ _).drew)).mono ?_; rintro e w8 ⟨rfl, rfl⟩) | (go_at_call 35; refine (unhide RS2 _).mono ?_; rintro e w9 ⟨rfl, rfl⟩))
            go_ret
            exact ⟨rfl, by rw [hB]; exact (CP.below (unhide HE) ((below_alloc1 _ _).drew)).cb.low⟩
        · as_aux_lemma =>
            have CT2 := hide (unhide CT 1 (v' - m') (by decide) (by decide) rfl)
            have RS2 := hide (unhide RS (v' - m'))
            obtain ⟨Z, hZ⟩ : ∃ Z, subZ t (v' - m') = Z := ⟨_, rfl⟩
            rw [hZ] at CT2 RS2
            clear CT RS hZ hw
            go_wp2_with fail
            go_region
            go_wp2_with (first | (go_at_call 34; refine (unhide CT2 _ ((below_alloc1 _ _).drew)).mono ?_; rintro e w8 ⟨rfl, rfl⟩) | (go_at_call 35; refine (unhide RS2 _).mono ?_; rintro e w9 ⟨rfl, rfl⟩))
            go_ret
            exact ⟨rfl, by rw [hB]; exact (CP.below (unhide HE) ((below_alloc1 _ _).drew)).cb.low⟩
        · as_aux_lemma =>
            have CT2 := hide (unhide CT 2 (q' - m') (by decide) (by decide) rfl)
            have RS2 := hide (unhide RS (q' - m'))
            obtain ⟨Z, hZ⟩ : ∃ Z, subZ t (q' - m') = Z := ⟨_, rfl⟩
            rw [hZ] at CT2 RS2
            clear CT RS hZ hw
            go_wp2_with fail
            go_region
            go_wp2_with (first | (go_at_call 34; refine (unhide CT2 _ ((below_alloc1 _ _).drew)).mono ?_; rintro e w8 ⟨rfl, rfl⟩) | (go_at_call 35; refine (unhide RS2 _).mono ?_; rintro e w9 ⟨rfl, rfl⟩))
            go_ret
            exact ⟨rfl, by rw [hB]; exact (CP.below (unhide HE) ((below_alloc1 _ _).drew)).cb.low⟩
end Go.Proofs.Ytkglaklkbodjkaa
