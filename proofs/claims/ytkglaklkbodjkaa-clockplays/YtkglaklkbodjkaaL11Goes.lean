import Derived.Test.YtkglaklkbodjkaaL11Fixed
import Derived.Test.YtkglaklkbodjkaaFlt
import Derived.Deep.DeepCutAuto
import Derived.Deep.CutBlock
namespace Go.Proofs.Ytkglaklkbodjkaa
open Go.RowKit Kt

/-- What an act does to a clock's numbers, for the law: Mono and Boot go on, and stay where Real is set. -/
structure Goes (K m q m' q' : Int) : Prop where
  am : m ≤ m'
  aq : q ≤ q'
  st : K = 1 ∨ K = 2 → m' = m ∧ q' = q
theorem goes_to (t : Int) (z : KS) (K : Int) : Goes K z.m z.q (actTo t z).2.m (actTo t z).2.q ∧ (actTo t z).2.n ≤ z.n + 1 := by
  unfold actTo
  split
  · exact ⟨⟨by simp, by simp, fun _ => ⟨rfl, rfl⟩⟩, by show z.n ≤ z.n + 1; omega⟩
  · refine ⟨⟨by simp, by simp, fun _ => ⟨rfl, rfl⟩⟩, ?_⟩
    show (if t = z.v then z.n else z.n + 1) ≤ z.n + 1
    split <;> omega
theorem goes_0 (k : Int) (z : KS) : Goes 0 z.m z.q (act0 k z).2.m (act0 k z).2.q ∧ (act0 k z).2.n ≤ z.n + 1 := by
  unfold act0
  split
  · exact ⟨⟨by simp, by simp, fun _ => ⟨rfl, rfl⟩⟩, by show z.n ≤ z.n + 1; omega⟩
  · refine ⟨⟨?_, ?_, fun h => by omega⟩, by show z.n ≤ z.n + 1; omega⟩
    · show z.m ≤ (if z.s = true then z.m else z.m + k)
      split <;> omega
    · show z.q ≤ (if z.s = true then z.q else z.q + k)
      split <;> omega
theorem goes_3 (z : KS) : Goes 3 z.m z.q (act3 z).2.m (act3 z).2.q ∧ (act3 z).2.n ≤ z.n + 1 := by
  unfold act3
  split
  · exact ⟨⟨by simp, by simp, fun _ => ⟨rfl, rfl⟩⟩, by show z.n ≤ z.n + 1; omega⟩
  · exact ⟨⟨by simp, by simp, fun _ => ⟨rfl, rfl⟩⟩, by show z.n ≤ z.n + 1; omega⟩
theorem goes_4 (z : KS) (hq : z.q ≤ z.c) : Goes 4 z.m z.q (act4 z).2.m (act4 z).2.q ∧ (act4 z).2.n ≤ z.n + 1 := by
  unfold act4
  split
  · refine ⟨⟨by simp, hq, fun h => by omega⟩, ?_⟩
    show (if z.c = z.q then z.n else z.n + 1) ≤ z.n + 1
    split <;> omega
  · exact ⟨⟨by simp, by simp, fun _ => ⟨rfl, rfl⟩⟩, by show z.n ≤ z.n + 1; omega⟩
set_option maxRecDepth 100000 in
set_option maxHeartbeats 1000000 in
theorem lgoes_long (p : Option Addr) (len cap : Nat) (w : World) (hlen : 200 < len) :
    Calls Try.prog 7 #[.slice p len cap] w fun e w' => e = .returned (.bool true) ∧ Below w.heap.size w w' := by
  have CF := hide (fixed11 w)
  have hl2 : (200 : Int) < ((len : Nat) : Int) := by omega
  go_enter Try.func7, Try.ntmps7
  go_wp2_with (go_at_call 21; refine (unhide CF).mono ?_; rintro e w1 ⟨rfl, hb1⟩)
  go_ret
  exact ⟨rfl, hb1⟩
set_option maxRecDepth 100000 in
set_option maxHeartbeats 16000000 in
theorem lgoes_short (p : Option Addr) (len cap : Nat) (kd kn : Nat → Int) (w : World) (hlen : len ≤ 200)
    (hk : ∀ i, i < len → 0 ≤ kd i ∧ kd i ≤ 255)
    (hc : ∀ i, i < len → ∃ x, p = some x ∧ x.block < w.heap.size ∧ w.cell? (x.add (i * 2)) = some (.int .u8 (kd i)) ∧ w.cell? (x.add (i * 2 + 1)) = some (.int .i64 (kn i))) :
    Calls Try.prog 7 #[.slice p len cap] w fun e w' => e = .returned (.bool true) ∧ Below w.heap.size w w' := by
  have CF := hide (fixed11 w)
  have CN := fun w' => hide (cnew_any w')
  obtain ⟨B, hB⟩ : ∃ B, w.heap.size = B := ⟨_, rfl⟩
  rw [hB] at hc
  have hc := hide hc
  have hk := hide hk
  have hl2 : ((len : Nat) : Int) ≤ 200 := by omega
  go_enter Try.func7, Try.ntmps7
  go_wp2_with (first | (go_at_call 21; refine (unhide CF).mono ?_; rintro e w1 ⟨rfl, hb1⟩) | (go_at_call 22; refine Hid.out ?_))
  refine hide ?_
  refine (unhide (CN _)).mono ?_
  rintro e w2 ⟨rfl, d2, hb2⟩
  rw [hB] at hb1
  obtain ⟨g, hg⟩ : ∃ g, w1.heap.size = g := ⟨_, rfl⟩
  have HH0 : Hid (CB B w w2 g 0 0 0 0 false 0) := hide (CB.new hb1 (by have := hb1.size; omega) hg.symm (by rw [← hg]; exact d2) hb2)
  rw [hg] at d2 hb2 ⊢
  clear d2 hb1 hb2 CF CN
  go_wp2_with fail
  go_loopw [4, 5, 23] (fun s4 s5 d w' => ∃ (i : Nat) (z : KS), d = .int .i64 (i : Int) ∧ i ≤ len ∧ s4 = .int .i64 z.m ∧ s5 = .int .i64 z.q ∧ Hid (CBs B w w' g z ∧ z.n ≤ i)) (fun _ _ d _ => len - (intOf d).toNat)
  case atStart => exact ⟨0, ⟨0, 0, 0, 0, false, 0⟩, rfl, by omega, rfl, rfl, hide ⟨unhide HH0, by decide⟩⟩
  case round =>
    obtain ⟨i, z, rfl, hi, rfl, rfl, HI⟩ := hrel
    by_cases hlt : i < len
    · obtain ⟨x, rfl, hx, hc0, hc1⟩ := (unhide hc) i hlt
      have hol : ∀ k u, k ≠ 0 → w.cell? (x.add (i * 2 + k)) = some u → wr.cell? ⟨(x.add (i * 2)).block, (x.add (i * 2)).off + k, none⟩ = some u := fun k u hk0 h => by
        have e2 : wr.cell? (x.add (i * 2 + k)) = some u := by rw [(unhide HI).1.low.cell (p := x.add (i * 2 + k)) (by unfold Addr.add; split <;> exact hx)]; exact h
        rw [← Go.Deep.add_add] at e2
        unfold Addr.add at e2
        rw [if_neg hk0] at e2
        exact e2
      have e0 : wr.cell? (x.add (i * 2)) = some (.int .u8 (kd i)) := by rw [(unhide HI).1.low.cell (p := x.add (i * 2)) (by unfold Addr.add; split <;> exact hx)]; exact hc0
      have e1 := hol 1 _ (by omega) hc1
      have hkd := (unhide hk) i hlt
      clear hc0 hc1 hol HH0
      generalize kd i = K at *
      generalize kn i = Nw at *
      obtain ⟨bx, hbx⟩ : ∃ b, wr.heap.size = b := ⟨_, rfl⟩
      obtain ⟨W3, hW3⟩ : ∃ W3, W3 = wr.alloc (.cells #[.int .u8 K, .int .i64 Nw] 57) := ⟨_, rfl⟩
      have b3 : Below wr.heap.size wr W3 := by rw [hW3]; exact below_alloc1 _ _
      have kb3 : Blk W3 bx 57 #[.int .u8 K, .int .i64 Nw] := by rw [hW3]; exact Blk.new_at _ _ _ hbx.symm
      have hgx : bx ≠ g := by have := Blk.lt (unhide HI).1.clk; omega
      have hn9 : z.n ≤ 900 := by have := (unhide HI).2; omega
      have H3 : Hid (CBs B w W3 g z ∧ Blk W3 bx 57 #[.int .u8 K, .int .i64 Nw] ∧ bx ≠ g ∧ z.n ≤ i ∧ z.n ≤ 900) := hide ⟨CB.below (unhide HI).1 b3, kb3, hgx, (unhide HI).2, hn9⟩
      have e6 : K.tmod 5 = K % 5 := Int.tmod_eq_emod_of_nonneg hkd.1
      have hmd : K % 5 = 0 ∨ K % 5 = 1 ∨ K % 5 = 2 ∨ K % 5 = 3 ∨ K % 5 = 4 := by omega
      have HW3 := hide hW3
      clear HI b3 kb3 hgx hW3 hn9
      go_upto_block 2 with fail
      go_cut [29] (fun _ wx => ∃ z' : KS, Hid (CBs B w wx g z' ∧ Blk wx bx 57 #[.int .u8 K, .int .i64 Nw] ∧ Goes (K % 5) z.m z.q z'.m z'.q ∧ z'.n ≤ ((i + 1 : Nat) : Int)))
      case first =>
        have fin : ∀ (z' : KS) wx, Goes (K % 5) z.m z.q z'.m z'.q ∧ z'.n ≤ z.n + 1 → CBs B w wx g z' → Tch g W3 wx → Hid (CBs B w wx g z' ∧ Blk wx bx 57 #[.int .u8 K, .int .i64 Nw] ∧ Goes (K % 5) z.m z.q z'.m z'.q ∧ z'.n ≤ ((i + 1 : Nat) : Int)) := fun z' wx hgo hcb ht =>
          hide ⟨hcb, (unhide H3).2.1.tch ht (unhide H3).2.2.1, hgo.1, by have := hgo.2; have := (unhide H3).2.2.2.1; omega⟩
        have HF := hide fin
        clear fin
        rcases hmd with hmd | hmd | hmd | hmd | hmd
        · as_aux_lemma =>
            have C := hide (badv (unhide H3).1 Nw)
            have HG : Hid (Goes (K % 5) z.m z.q (act0 Nw z).2.m (act0 Nw z).2.q ∧ (act0 Nw z).2.n ≤ z.n + 1) := hide (by rw [hmd]; exact goes_0 Nw z)
            go_wp2_with (go_at_call 23; refine Hid.out ?_)
            refine hide ?_
            rw [← unhide HW3]
            refine (unhide C).mono ?_
            rintro e w5 ⟨rfl, d5, t5⟩
            have HX := unhide HF _ w5 (unhide HG) d5 t5
            clear d5 t5 C
            go_wp2_with fail
            go_meet
            exact ⟨_, HX⟩
        · as_aux_lemma =>
            have C := hide (bset (unhide H3).1 (unhide H3).2.2.2.2 Nw)
            have HG : Hid (Goes (K % 5) z.m z.q (actTo Nw z).2.m (actTo Nw z).2.q ∧ (actTo Nw z).2.n ≤ z.n + 1) := hide (by rw [hmd]; exact goes_to Nw z 1)
            go_wp2_with (go_at_call 24; refine Hid.out ?_)
            refine hide ?_
            rw [← unhide HW3]
            refine (unhide C).mono ?_
            rintro e w5 ⟨rfl, d5, t5⟩
            have HX := unhide HF _ w5 (unhide HG) d5 t5
            clear d5 t5 C
            go_wp2_with fail
            go_meet
            exact ⟨_, HX⟩
        · as_aux_lemma =>
            have C := hide (badj (unhide H3).1 (unhide H3).2.2.2.2 Nw)
            have HG : Hid (Goes (K % 5) z.m z.q (actTo (z.v + Nw) z).2.m (actTo (z.v + Nw) z).2.q ∧ (actTo (z.v + Nw) z).2.n ≤ z.n + 1) := hide (by rw [hmd]; exact goes_to (z.v + Nw) z 2)
            go_wp2_with (go_at_call 25; refine Hid.out ?_)
            refine hide ?_
            rw [← unhide HW3]
            refine (unhide C).mono ?_
            rintro e w5 ⟨rfl, d5, t5⟩
            have HX := unhide HF _ w5 (unhide HG) d5 t5
            clear d5 t5 C
            go_wp2_with fail
            go_meet
            exact ⟨_, HX⟩
        · as_aux_lemma =>
            have C := hide (bsusp (unhide H3).1)
            have HG : Hid (Goes (K % 5) z.m z.q (act3 z).2.m (act3 z).2.q ∧ (act3 z).2.n ≤ z.n + 1) := hide (by rw [hmd]; exact goes_3 z)
            go_wp2_with (go_at_call 26; refine Hid.out ?_)
            refine hide ?_
            rw [← unhide HW3]
            refine (unhide C).mono ?_
            rintro e w5 ⟨rfl, d5, t5⟩
            have HX := unhide HF _ w5 (unhide HG) d5 t5
            clear d5 t5 C
            go_wp2_with fail
            go_meet
            exact ⟨_, HX⟩
        · as_aux_lemma =>
            have C := hide (bresume (unhide H3).1 (unhide H3).2.2.2.2)
            have HG : Hid (Goes (K % 5) z.m z.q (act4 z).2.m (act4 z).2.q ∧ (act4 z).2.n ≤ z.n + 1) := hide (by rw [hmd]; exact goes_4 z (unhide H3).1.nums.qc)
            go_wp2_with (go_at_call 27; refine Hid.out ?_)
            refine hide ?_
            rw [← unhide HW3]
            refine (unhide C).mono ?_
            rintro e w5 ⟨rfl, d5, t5⟩
            have HX := unhide HF _ w5 (unhide HG) d5 t5
            clear d5 t5 C
            go_wp2_with fail
            go_meet
            exact ⟨_, HX⟩
      case rest => as_aux_lemma =>
        clear H3 HW3 e0 e1
        obtain ⟨z', H4⟩ := hcut
        have N0 := hide (nowR wc (unhide H4).1.clk (unhide H4).1.nums 0 (by decide) (by decide))
        have N1 := hide (nowR wc (unhide H4).1.clk (unhide H4).1.nums 1 (by decide) (by decide))
        have N2 := hide (nowR wc (unhide H4).1.clk (unhide H4).1.nums 2 (by decide) (by decide))
        rw [if_neg (by decide), if_neg (by decide)] at N0
        rw [if_pos rfl] at N1
        rw [if_neg (by decide), if_pos rfl] at N2
        have k0 := (unhide H4).2.1.cell 0
        have k1 := (unhide H4).2.1.cell 1
        obtain ⟨g1, g2, g3⟩ := (unhide H4).2.2.1
        have l1 := (unhide H4).1.nums.mq
        have l2 := (unhide H4).1.nums.v0
        have p1 : decide (z'.m < z.m) = false := decide_eq_false (by omega)
        have p2 : decide (z'.q < z.q) = false := decide_eq_false (by omega)
        have p3 : decide (z'.q < z'.m) = false := decide_eq_false (by omega)
        have p4 : decide (z'.v < 0) = false := decide_eq_false (by omega)
        have HE : Hid (∀ d5 : Int, d5 = ((i + 1 : Nat) : Int) → True) := hide (fun _ _ => trivial)
        rcases hmd with hmd | hmd | hmd | hmd | hmd
        · clear g1 g2 g3 l1 l2
          go_wp2_with (first | (go_at_call 29; with_reducible refine (unhide N0).mono ?_; rintro e w6 ⟨rfl, rfl⟩) | (go_at_call 29; with_reducible refine (unhide N1).mono ?_; rintro e w7 ⟨rfl, rfl⟩) | (go_at_call 29; with_reducible refine (unhide N2).mono ?_; rintro e w8 ⟨rfl, rfl⟩))
          go_roundw
          case rel => exact ⟨i + 1, z', by go_num, by omega, rfl, rfl, hide ⟨(unhide H4).1, (unhide H4).2.2.2⟩⟩
          case measure => simp [intOf]; omega
        · obtain ⟨r1, r2⟩ := g3 (.inl hmd)
          have s1 : (z'.m != z.m) = false := by rw [r1]; simp
          have s2 : (z'.q != z.q) = false := by rw [r2]; simp
          clear g1 g2 g3 l1 l2 r1 r2
          go_wp2_with (first | (go_at_call 29; with_reducible refine (unhide N0).mono ?_; rintro e w6 ⟨rfl, rfl⟩) | (go_at_call 29; with_reducible refine (unhide N1).mono ?_; rintro e w7 ⟨rfl, rfl⟩) | (go_at_call 29; with_reducible refine (unhide N2).mono ?_; rintro e w8 ⟨rfl, rfl⟩))
          go_roundw
          case rel => exact ⟨i + 1, z', by go_num, by omega, rfl, rfl, hide ⟨(unhide H4).1, (unhide H4).2.2.2⟩⟩
          case measure => simp [intOf]; omega
        · obtain ⟨r1, r2⟩ := g3 (.inr hmd)
          have s1 : (z'.m != z.m) = false := by rw [r1]; simp
          have s2 : (z'.q != z.q) = false := by rw [r2]; simp
          clear g1 g2 g3 l1 l2 r1 r2
          go_wp2_with (first | (go_at_call 29; with_reducible refine (unhide N0).mono ?_; rintro e w6 ⟨rfl, rfl⟩) | (go_at_call 29; with_reducible refine (unhide N1).mono ?_; rintro e w7 ⟨rfl, rfl⟩) | (go_at_call 29; with_reducible refine (unhide N2).mono ?_; rintro e w8 ⟨rfl, rfl⟩))
          go_roundw
          case rel => exact ⟨i + 1, z', by go_num, by omega, rfl, rfl, hide ⟨(unhide H4).1, (unhide H4).2.2.2⟩⟩
          case measure => simp [intOf]; omega
        · clear g1 g2 g3 l1 l2
          go_wp2_with (first | (go_at_call 29; with_reducible refine (unhide N0).mono ?_; rintro e w6 ⟨rfl, rfl⟩) | (go_at_call 29; with_reducible refine (unhide N1).mono ?_; rintro e w7 ⟨rfl, rfl⟩) | (go_at_call 29; with_reducible refine (unhide N2).mono ?_; rintro e w8 ⟨rfl, rfl⟩))
          go_roundw
          case rel => exact ⟨i + 1, z', by go_num, by omega, rfl, rfl, hide ⟨(unhide H4).1, (unhide H4).2.2.2⟩⟩
          case measure => simp [intOf]; omega
        · clear g1 g2 g3 l1 l2
          go_wp2_with (first | (go_at_call 29; with_reducible refine (unhide N0).mono ?_; rintro e w6 ⟨rfl, rfl⟩) | (go_at_call 29; with_reducible refine (unhide N1).mono ?_; rintro e w7 ⟨rfl, rfl⟩) | (go_at_call 29; with_reducible refine (unhide N2).mono ?_; rintro e w8 ⟨rfl, rfl⟩))
          go_roundw
          case rel => exact ⟨i + 1, z', by go_num, by omega, rfl, rfl, hide ⟨(unhide H4).1, (unhide H4).2.2.2⟩⟩
          case measure => simp [intOf]; omega
    · obtain rfl : i = len := by omega
      have HE : Hid (Below B w wr) := hide (unhide HI).1.low
      clear HI HH0
      go_wp2_with fail
      go_ret
      exact ⟨rfl, by rw [hB]; exact unhide HE⟩
end Go.Proofs.Ytkglaklkbodjkaa
