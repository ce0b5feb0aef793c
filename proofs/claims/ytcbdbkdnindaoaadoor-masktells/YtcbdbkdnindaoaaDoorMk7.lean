import Derived.Test.YtcbdbkdnindaoaaDoorMk6
namespace Go.Proofs.YtcbdbkdnindaoaaDoor
open Go.RowKit Mk

theorem cut_any (l : List UInt8) (b : UInt8) (hl : l.length ≤ 1000000) (w : World) (ht : MTab w) :
    Calls Tryd.prog 27 #[.string (bs l), .string ⟨#[b]⟩] w fun e w' => e = .returned (.tuple #[.string (bs (Lib.cut l [b]).1), .string (bs (Lib.cut l [b]).2.1), .bool (Lib.cut l [b]).2.2]) ∧ ∃ n, w' = w.drewN n := by
  obtain ⟨⟨m, h1⟩, _⟩ := ht
  have h := Tryd.strings_Cut (bs l) ⟨#[b]⟩ m w (by rw [bs_size]; omega) h1
  rw [bs_list] at h
  exact h
set_option maxHeartbeats 2000000 in
theorem read_any (l : List UInt8) (hl : l.length ≤ 100000) (w : World) (ht : MTab w) :
    Calls Tryd.prog 23 #[.string (bs l)] w fun e w' => e = .returned (.int .u32 (readN l : Nat)) ∧ Below w.heap.size w w' := by
  obtain ⟨R, hR⟩ : ∃ R, readN l = R := ⟨_, rfl⟩
  rw [hR]
  have HR := hide hR
  obtain ⟨B, hB⟩ : ∃ B, w.heap.size = B := ⟨_, rfl⟩
  rw [hB]
  have HT := hide ht
  clear hR ht
  go_enter Tryd.func23, Tryd.ntmps23
  go_wp2
  go_loopw [0, 3, 4] (fun t m d wr => ∃ (s : List UInt8) (q : Nat) (more : Bool), s.length ≤ 100000 ∧ q < 65536 ∧ t = .string (bs s) ∧ m = .int .u32 (q : Int) ∧ d = .bool more ∧ Hid (Below B w wr ∧ (more = true → ∃ n, s.length < n ∧ R = q ||| readL n s) ∧ (more = false → R = q))) (fun t _ d _ => match d, t with | .bool true, .string s => s.size + 1 | _, _ => 0)
  case atStart =>
    refine ⟨l, 0, true, hl, by omega, rfl, rfl, rfl, hide ⟨by rw [← hB]; exact Below.refl _ _, fun _ => ⟨l.length + 1, by omega, ?_⟩, fun h => by cases h⟩⟩
    rw [← unhide HR, Nat.zero_or]; rfl
  case round =>
    obtain ⟨s, q, more, hs, hq, rfl, rfl, rfl, HI⟩ := hrel
    cases more with
    | false =>
      have HI2 := hide (And.intro ((unhide HI).2.2 rfl) (unhide HI).1)
      clear HI
      go_wp2
      go_ret
      exact ⟨by rw [(unhide HI2).1]; rfl, (unhide HI2).2⟩
    | true =>
      obtain ⟨n, hn, hRn⟩ := (unhide HI).2.1 rfl
      have hb := (unhide HI).1
      cases n with
      | zero => omega
      | succ n =>
        have htr : MTab wr := (unhide HT).below (hB ▸ hb)
        have hcl := cut_le s 44
        have hcs := cut_short s 44
        have hcl2 := cut_le (Lib.cut s [44]).1 45
        have C1 := fun w' h => hide (cut_any s 44 (by omega) w' h)
        have C2 := fun w' h => hide (cut_any (Lib.cut s [44]).1 45 (by omega) w' h)
        have hrow : rowOf s = stretchN (Lib.cut (Lib.cut s [44]).1 [45]).1 (if (Lib.cut (Lib.cut s [44]).1 [45]).2.2 = true then (Lib.cut (Lib.cut s [44]).1 [45]).2.1 else (Lib.cut (Lib.cut s [44]).1 [45]).1) := rfl
        have hrl := rowOf_lt s
        have hread : readL (n + 1) s = if rowOf s = 0 then 0 else if (Lib.cut s [44]).2.2 = true then rowOf s ||| readL n (Lib.cut s [44]).2.1 else rowOf s := rfl
        rw [hread] at hRn
        clear hread
        have HRN := hide hRn
        have HTR := hide htr
        have HBL := hide hb
        clear hRn htr hb HI
        have C3 := fun w' h => hide (stretch_any (Lib.cut (Lib.cut s [44]).1 [45]).1 (if (Lib.cut (Lib.cut s [44]).1 [45]).2.2 = true then (Lib.cut (Lib.cut s [44]).1 [45]).2.1 else (Lib.cut (Lib.cut s [44]).1 [45]).1) (by omega) (by split <;> omega) w' h)
        rw [← hrow] at C3
        clear hrow
        generalize rowOf s = row at *
        generalize Lib.cut (Lib.cut s [44]).1 [45] = X2 at *
        generalize Lib.cut s [44] = X1 at *
        obtain ⟨p1, r1, o1⟩ := X1
        obtain ⟨p2, r2, o2⟩ := X2
        simp only at C1 C2 C3 HRN hcl hcs hcl2
        have a1 := bits_or_u32 q row (by omega) (by omega)
        have hor : q ||| row < 65536 := by
          show q ||| row < 2 ^ 16
          exact Nat.or_lt_two_pow (by omega) (by omega)
        have HRN2 := hide (show R = if row = 0 then q else if o1 = true then (q ||| row) ||| readL n r1 else q ||| row by
          rw [unhide HRN]
          split
          · simp
          · split
            · rw [Nat.or_assoc]
            · rfl)
        clear HRN
        generalize q ||| row = q2 at *
        go_wp2_with (go_at_call 27; refine Hid.out ?_)
        refine hide ?_
        refine (unhide (C1 _ (unhide HTR))).mono ?_
        rintro e w1 ⟨rfl, n1, hw1⟩
        have HT1 := hide (show MTab w1 by rw [hw1]; exact (unhide HTR).drew n1)
        have HB1 := hide (show Below B w w1 by rw [hw1]; exact (unhide HBL).trans ((below_drewN wr n1).mono (hB ▸ (unhide HBL).size)))
        clear hw1
        go_wp2_with (go_at_call 27; refine Hid.out ?_)
        refine hide ?_
        refine (unhide (C2 _ (unhide HT1))).mono ?_
        rintro e w2 ⟨rfl, n2, hw2⟩
        have HT2 := hide (show MTab w2 by rw [hw2]; exact (unhide HT1).drew n2)
        have HB2 := hide (show Below B w w2 by rw [hw2]; exact (unhide HB1).trans ((below_drewN _ n2).mono (hB ▸ (unhide HB1).size)))
        clear hw2
        cases o2 with
        | false =>
          rw [if_neg (by decide)] at C3
          go_wp2_with (go_at_call 28; refine Hid.out ?_)
          refine hide ?_
          refine (unhide (C3 _ (unhide HT2))).mono ?_
          rintro e w3 ⟨rfl, b3⟩
          have HB3 := hide ((unhide HB2).trans (b3.mono (hB ▸ (unhide HB2).size)))
          clear b3 C1 C2 C3 HT1 HT2 HB1 HB2 HTR HBL
          by_cases h0 : row = 0
          · rw [if_pos h0] at HRN2
            subst h0
            go_wp2_with fail
            go_ret
            exact ⟨by rw [unhide HRN2]; rfl, unhide HB3⟩
          · rw [if_neg h0] at HRN2
            have hne : ((row : Int) == 0) = false := by rw [beq_eq_false_iff_ne]; omega
            cases o1 with
            | false =>
              rw [if_neg (by decide)] at HRN2
              go_wp2_with fail
              go_roundw
              case rel => exact ⟨r1, q2, false, by omega, hor, rfl, rfl, rfl, hide ⟨unhide HB3, (fun h => by cases h), fun _ => unhide HRN2⟩⟩
              case measure => simp
            | true =>
              rw [if_pos rfl] at HRN2
              have hsh := hcs rfl
              have z1 := bs_size s
              have z2 := bs_size r1
              go_wp2_with fail
              go_roundw
              case rel => exact ⟨r1, q2, true, by omega, hor, rfl, rfl, rfl, hide ⟨unhide HB3, fun _ => ⟨n, by omega, unhide HRN2⟩, fun h => by cases h⟩⟩
              case measure => show (bs r1).size + 1 < (bs s).size + 1; omega
        | true =>
          rw [if_pos rfl] at C3
          go_wp2_with (go_at_call 28; refine Hid.out ?_)
          refine hide ?_
          refine (unhide (C3 _ (unhide HT2))).mono ?_
          rintro e w3 ⟨rfl, b3⟩
          have HB3 := hide ((unhide HB2).trans (b3.mono (hB ▸ (unhide HB2).size)))
          clear b3 C1 C2 C3 HT1 HT2 HB1 HB2 HTR HBL
          by_cases h0 : row = 0
          · rw [if_pos h0] at HRN2
            subst h0
            go_wp2_with fail
            go_ret
            exact ⟨by rw [unhide HRN2]; rfl, unhide HB3⟩
          · rw [if_neg h0] at HRN2
            have hne : ((row : Int) == 0) = false := by rw [beq_eq_false_iff_ne]; omega
            cases o1 with
            | false =>
              rw [if_neg (by decide)] at HRN2
              go_wp2_with fail
              go_roundw
              case rel => exact ⟨r1, q2, false, by omega, hor, rfl, rfl, rfl, hide ⟨unhide HB3, (fun h => by cases h), fun _ => unhide HRN2⟩⟩
              case measure => simp
            | true =>
              rw [if_pos rfl] at HRN2
              have hsh := hcs rfl
              have z1 := bs_size s
              have z2 := bs_size r1
              go_wp2_with fail
              go_roundw
              case rel => exact ⟨r1, q2, true, by omega, hor, rfl, rfl, rfl, hide ⟨unhide HB3, fun _ => ⟨n, by omega, unhide HRN2⟩, fun h => by cases h⟩⟩
              case measure => show (bs r1).size + 1 < (bs s).size + 1; omega
set_option maxHeartbeats 2000000 in
theorem parse_any (l : List UInt8) (hl : l.length ≤ 100000) (w : World) (ht : MTab w) :
    Calls Tryd.prog 16 #[.string (bs l)] w fun e w' => e = .returned (.tuple #[.int .u32 ((parseN l).1 : Nat), .bool (parseN l).2]) ∧ Below w.heap.size w w' := by
  have hr : readN l < 65536 := readL_lt _ _
  have C1 := hide (read_any l hl w ht)
  have C2 := fun w' => hide (string_any (readN l) (by omega) w')
  have he := bs_eq (textOf (readN l)) l
  obtain ⟨R, hR⟩ : ∃ R, parseN l = R := ⟨_, rfl⟩
  rw [hR]
  unfold parseN at hR
  by_cases h : textOf (readN l) = l
  · rw [if_pos h] at hR
    have HR := hide hR
    rw [show (textOf (readN l) == l) = true by rw [h]; exact beq_self_eq_true _] at he
    clear hR h
    generalize textOf (readN l) = T at *
    generalize readN l = q at *
    go_enter Tryd.func16, Tryd.ntmps16
    go_wp2_with (go_at_call 23; refine Hid.out ?_)
    refine hide ?_
    refine (unhide C1).mono ?_
    rintro e w1 ⟨rfl, b1⟩
    go_wp2_with (go_at_call 15; refine (unhide (C2 _)).mono ?_; rintro e w2 ⟨rfl, b2⟩)
    go_ret2
    exact ⟨by rw [← unhide HR]; rfl, b1.trans (b2.mono b1.size)⟩
  · rw [if_neg h] at hR
    have HR := hide hR
    rw [show (textOf (readN l) == l) = false by rw [beq_eq_false_iff_ne]; exact h] at he
    clear hR h
    generalize textOf (readN l) = T at *
    generalize readN l = q at *
    go_enter Tryd.func16, Tryd.ntmps16
    go_wp2_with (go_at_call 23; refine Hid.out ?_)
    refine hide ?_
    refine (unhide C1).mono ?_
    rintro e w1 ⟨rfl, b1⟩
    go_wp2_with (go_at_call 15; refine (unhide (C2 _)).mono ?_; rintro e w2 ⟨rfl, b2⟩)
    go_ret2
    exact ⟨by rw [← unhide HR]; rfl, b1.trans (b2.mono b1.size)⟩
end Go.Proofs.YtcbdbkdnindaoaaDoor
