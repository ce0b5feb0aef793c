import Derived.Test.YtkglaklkbodjkaaL10Fixed
import Derived.Test.YtkglaklkbodjkaaFlt
namespace Go.Proofs.Ytkglaklkbodjkaa
open Go.RowKit Wh
set_option linter.unusedVariables false

/-- Two wheels that lie apart. -/
structure W2 (C : Nat) (w0 w : World) (B H Mb now n : Nat) (L : List Wh.Item) (sv : Nat → Value) (B' H' Mb' now' n' : Nat) (L' : List Wh.Item) (sv' : Nat → Value) : Prop where
  x : Wv C w0 w B H Mb now n L sv
  y : Wv C w0 w B' H' Mb' now' n' L' sv'
  d : ∀ g, Foot H Mb sv g → ¬ Foot H' Mb' sv' g
section
variable {C : Nat} {w0 w w2 : World} {B H Mb now n B' H' Mb' now' n' : Nat} {L L' : List Wh.Item} {sv sv' : Nat → Value}
theorem W2.left {m1 m2 : Nat} {L2 : List Wh.Item} {s2 : Nat → Value} (h : W2 C w0 w B H Mb now n L sv B' H' Mb' now' n' L' sv') (x2 : Wv C w0 w2 B H Mb m1 m2 L2 s2) (k : Fr w w2 (Foot H Mb sv) (Foot H Mb s2)) : W2 C w0 w2 B H Mb m1 m2 L2 s2 B' H' Mb' now' n' L' sv' := by
  refine ⟨x2, ⟨h.y.has.apart k fun g h1 h2 => h.d g h2 h1, h.y.rw, Nat.le_trans h.y.bs k.size, x2.low, x2.cs, h.y.foot⟩, fun g h1 h2 => ?_⟩
  rcases k.foot g h1 with h3 | h3
  · exact h.d g h3 h2
  · have := h.y.has.lt g h2
    omega
theorem W2.right {m1 m2 : Nat} {L2 : List Wh.Item} {s2 : Nat → Value} (h : W2 C w0 w B H Mb now n L sv B' H' Mb' now' n' L' sv') (y2 : Wv C w0 w2 B' H' Mb' m1 m2 L2 s2) (k : Fr w w2 (Foot H' Mb' sv') (Foot H' Mb' s2)) : W2 C w0 w2 B H Mb now n L sv B' H' Mb' m1 m2 L2 s2 := by
  refine ⟨⟨h.x.has.apart k h.d, h.x.rw, Nat.le_trans h.x.bs k.size, y2.low, y2.cs, h.x.foot⟩, y2, fun g h1 h2 => ?_⟩
  rcases k.foot g h2 with h3 | h3
  · exact h.d g h1 h3
  · have := h.x.has.lt g h1
    omega
theorem W2.below (h : W2 C w0 w B H Mb now n L sv B' H' Mb' now' n' L' sv') (hb : Below w.heap.size w w2) : W2 C w0 w2 B H Mb now n L sv B' H' Mb' now' n' L' sv' := ⟨h.x.below hb, h.y.below hb, h.d⟩
end
set_option maxRecDepth 100000 in
set_option maxHeartbeats 1000000 in
theorem lparts_long (p : Option Addr) (len cap : Nat) (a b : Int) (w : World) (hlen : 60 < len) :
    Calls Try.prog 4 #[.slice p len cap, .int .u16 a, .int .u16 b] w fun e w' => e = .returned (.bool true) ∧ Below w.heap.size w w' := by
  have CF := hide (fixed10 w)
  have hl2 : (60 : Int) < ((len : Nat) : Int) := by omega
  go_enter Try.func4, Try.ntmps4
  go_wp2_with (go_at_call 10; refine (unhide CF).mono ?_; rintro e w1 ⟨rfl, hb1⟩)
  go_ret
  exact ⟨rfl, hb1⟩
set_option maxRecDepth 100000 in
set_option maxHeartbeats 8000000 in
theorem lparts_short (p : Option Addr) (len cap a b : Nat) (kd ki kt : Nat → Int) (w : World) (hlen : len ≤ 60) (ha : a ≤ 65535) (hb : b ≤ 65535)
    (hki : ∀ i, i < len → isI (ki i))
    (hc : ∀ i, i < len → ∃ x, p = some x ∧ x.block < w.heap.size ∧ w.cell? (x.add (i * 3)) = some (.int .u8 (kd i)) ∧ w.cell? (x.add (i * 3 + 1)) = some (.int .i64 (ki i)) ∧ w.cell? (x.add (i * 3 + 2)) = some (.int .i64 (kt i))) :
    Calls Try.prog 4 #[.slice p len cap, .int .u16 (a : Int), .int .u16 (b : Int)] w fun e w' => e = .returned (.bool true) ∧ Below w.heap.size w w' := by
  have CF := hide (fixed10 w)
  obtain ⟨C, hC⟩ : ∃ C, w.heap.size = C := ⟨_, rfl⟩
  rw [hC] at hc
  have hc := hide hc
  have hki := hide hki
  have hl2 : ((len : Nat) : Int) ≤ 60 := by omega
  go_enter Try.func4, Try.ntmps4
  go_wp2_with (first | (go_at_call 10; refine (unhide CF).mono ?_; rintro e w1 ⟨rfl, hb1⟩) | (go_at_call 11; refine Hid.out ?_))
  refine hide ?_
  rw [hC] at hb1
  refine (new_has w1 hb1 (by have := hb1.size; omega)).mono ?_
  rintro e w2 ⟨B, H, Mb, rfl, v2, b2, -⟩
  have H2 := hide v2
  clear v2 b2 hb1 CF
  go_wp2_with (go_at_call 11; refine Hid.out ?_)
  refine hide ?_
  refine (new_has w2 (unhide H2).low (unhide H2).cs).mono ?_
  rintro e w3 ⟨B', H', Mb', rfl, v3, b3, f3⟩
  have HH0 : Hid (W2 C w w3 B H Mb 0 0 [] (fun _ => .slice none 0 0) B' H' Mb' 0 0 [] (fun _ => .slice none 0 0)) := hide ⟨(unhide H2).below b3, v3, fun g h1 h2 => by have := f3 g h2; have := (unhide H2).has.lt g h1; omega⟩
  clear v3 b3 f3 H2
  go_wp2_with fail
  go_loopw [23] (fun d w' => ∃ (i n n' : Nat) (L : List Wh.Item) (sv sv' : Nat → Value), d = .int .i64 (i : Int) ∧ i ≤ len ∧ n ≤ i ∧ n' ≤ i ∧ Hid (W2 C w w' B H Mb 0 n L sv B' H' Mb' 0 n' L sv')) (fun d _ => len - (intOf d).toNat)
  case atStart => exact ⟨0, 0, 0, [], _, _, rfl, by omega, by omega, by omega, HH0⟩
  case round =>
    obtain ⟨i, n, n', L, sv, sv', rfl, hi, hn, hn', HI⟩ := hrel
    by_cases hlt : i < len
    · obtain ⟨x, rfl, hx, hc0, hc1, hc2⟩ := (unhide hc) i hlt
      have hol : ∀ k u, k ≠ 0 → w.cell? (x.add (i * 3 + k)) = some u → wr.cell? ⟨(x.add (i * 3)).block, (x.add (i * 3)).off + k, none⟩ = some u := fun k u hk0 h => by
        have e2 : wr.cell? (x.add (i * 3 + k)) = some u := by rw [(unhide HI).x.low.cell (p := x.add (i * 3 + k)) (by unfold Addr.add; split <;> exact hx)]; exact h
        rw [← Go.Deep.add_add] at e2
        unfold Addr.add at e2
        rw [if_neg hk0] at e2
        exact e2
      have e0 : wr.cell? (x.add (i * 3)) = some (.int .u8 (kd i)) := by rw [(unhide HI).x.low.cell (p := x.add (i * 3)) (by unfold Addr.add; split <;> exact hx)]; exact hc0
      have e1 := hol 1 _ (by omega) hc1
      have e2 := hol 2 _ (by omega) hc2
      have hid := (unhide hki) i hlt
      clear hc0 hc1 hc2 hol HH0
      generalize kd i = K at *
      generalize ki i = I at *
      generalize kt i = T at *
      obtain ⟨bx, hbx⟩ : ∃ b, wr.heap.size = b := ⟨_, rfl⟩
      obtain ⟨W3, hW3⟩ : ∃ W3, W3 = wr.alloc (.cells #[.int .u8 K, .int .i64 I, .int .i64 T] 28) := ⟨_, rfl⟩
      have b3 : Below wr.heap.size wr W3 := by rw [hW3]; exact below1 _ _
      have kb3 : Blk W3 bx 28 #[.int .u8 K, .int .i64 I, .int .i64 T] := by rw [hW3]; exact Blk.new_at _ _ _ hbx.symm
      have hgx : ¬ Foot H Mb sv bx := fun hF => by have := (unhide HI).x.has.lt bx hF; omega
      have H3 := hide (And.intro ((unhide HI).below b3) (And.intro kb3 hgx))
      have HW3 := hide hW3
      clear HI b3 kb3 hgx hW3
      go_wp2_with (go_at_call 13; refine Hid.out ?_)
      refine hide ?_
      rw [← unhide HW3]
      refine (wput (unhide H3).1.x (by decide) (by omega) I T hid).mono ?_
      rintro e w5 ⟨rfl, n5, sv5, hn5, v5, k5⟩
      have kb5 : Blk w5 bx 28 #[.int .u8 K, .int .i64 I, .int .i64 T] := by
        have h1 := (unhide H3).2.1
        have h2 := h1.lt
        unfold Blk at *
        rw [k5.block bx h2 (unhide H3).2.2]; exact h1
      have q1 := kb5.cell 1
      have q2 := kb5.cell 2
      have H5 := hide ((unhide H3).1.left v5 k5)
      clear kb5 v5 k5 H3 HW3 e0 e1 e2
      go_wp2_with (go_at_call 13; refine Hid.out ?_)
      refine hide ?_
      refine (wput (unhide H5).y (by decide) (by omega) I T hid).mono ?_
      rintro e w6 ⟨rfl, n6, sv6, hn6, v6, k6⟩
      have H6 := hide ((unhide H5).right v6 k6)
      clear v6 k6 H5 q1 q2
      go_wp2_with fail
      go_roundw
      case rel => exact ⟨i + 1, n5, n6, _, _, _, by go_num, by omega, by omega, by omega, H6⟩
      case measure => simp [intOf]; omega
    · obtain rfl : i = len := by omega
      have HE := hide (unhide HI)
      clear HI HH0 hlt hi
      have u1 : (a : Int).tmod 30000 = ((a % 30000 : Nat) : Int) := by rw [Int.tmod_eq_emod_of_nonneg (by omega)]; omega
      have u2 : (b : Int).tmod 30000 = ((b % 30000 : Nat) : Int) := by rw [Int.tmod_eq_emod_of_nonneg (by omega)]; omega
      obtain ⟨A, hA⟩ : ∃ A, a % 30000 = A := ⟨_, rfl⟩
      obtain ⟨D, hD⟩ : ∃ D, b % 30000 = D := ⟨_, rfl⟩
      have hA2 : A < 30000 := by omega
      have hD2 : D < 30000 := by omega
      rw [hA] at u1
      rw [hD] at u2
      clear hA hD ha hb
      have LE : L.length ≤ 1024 := (unhide HE).x.rw.len
      go_wp2_with (go_at_call 16; refine Hid.out ?_)
      obtain ⟨c7, hc7⟩ : ∃ c, wr.heap.size = c := ⟨_, rfl⟩
      refine hide ?_
      refine (wadvance (unhide HE).x (by decide) (A : Int) A (by omega)).mono ?_
      rintro e w7 ⟨v1, rfl, r1, sv7, x7, k7, o7⟩
      rw [hc7] at r1
      have hCc : C ≤ c7 := by have := (unhide HE).x.cs; omega
      have y7 : ∀ g, v1.ownBlock = some g → ¬ Foot H' Mb' sv' g := fun g h1 h2 => by
        have := (r1.lt g h1).1
        have := (unhide HE).y.has.lt g h2
        omega
      have H7 := hide ((unhide HE).left x7 k7)
      have R7 := hide (And.intro r1 (And.intro o7 y7))
      have hz7 : c7 ≤ w7.heap.size := by rw [← hc7]; exact k7.size
      clear r1 x7 k7 o7 y7 HE
      go_wp2_with (go_at_call 16; refine Hid.out ?_)
      refine hide ?_
      refine (wadvance (unhide H7).x (by omega) (D : Int) D (by omega)).mono ?_
      rintro e w8 ⟨v2, rfl, r2, sv8, x8, k8, o8⟩
      have H8 := hide ((unhide H7).left x8 k8)
      have R8 := hide (And.intro (k8.row (unhide R7).1 (unhide R7).2.1) (And.intro (row_out (unhide R7).1 (unhide R7).2.1 k8) (unhide R7).2.2))
      have R2 := hide r2
      have hz8 := k8.size
      have hln := ran_len 0 L A
      have hln2 := ran_len (0 + A) (ran 0 L A).1 D
      have HLL : Hid ((ran 0 L A).2.length + (ran (0 + A) (ran 0 L A).1 D).2.length ≤ 1000000) := hide (by omega)
      have hR := ran_add 0 L A D
      generalize (ran 0 L A).2 = F1 at *
      generalize (ran (0 + A) (ran 0 L A).1 D).2 = F2 at *
      generalize (ran (0 + A) (ran 0 L A).1 D).1 = L2 at *
      clear r2 x8 k8 o8 H7 R7 hln hln2
      go_wp2_with (first
        | (at_builtin; refine app_rows rfl _ _ rfl c7 w7.heap.size v1 v2 _ _ rfl (unhide R8).1 rfl (unhide R2) (by omega) (unhide HLL) ?_; intro v9 w9 q1 q2 q3)
        | (go_at_call 16; refine Hid.out ?_))
      have H9 : Hid (W2 C w w9 B H Mb (0 + A + D) n L2 sv8 B' H' Mb' 0 n' L sv') := hide ⟨(unhide H8).x.grown q2 (fun g h1 => ⟨(unhide R8).2.1 g h1, Nat.le_trans hCc ((unhide R8).1.lt g h1).1⟩), (unhide H8).y.grown q2 (fun g h1 => ⟨(unhide R8).2.2 g h1, Nat.le_trans hCc ((unhide R8).1.lt g h1).1⟩), (unhide H8).d⟩
      have y9 : ∀ g, v9.ownBlock = some g → ¬ Foot H' Mb' sv' g := fun g h1 h2 => by
        rcases q3 g h1 with h3 | h3
        · exact (unhide R8).2.2 g h3 h2
        · have := (unhide H8).y.has.lt g h2
          omega
      have R9 := hide (And.intro q1 y9)
      clear q1 q2 q3 y9 H8 R8 R2 HLL
      refine hide ?_
      refine (wadvance (unhide H9).y (by decide) ((A : Int) + (D : Int)) (A + D) (by omega)).mono ?_
      rintro e w10 ⟨v5, rfl, r5, sv10, y10, k10, o10⟩
      rw [hR] at r5 y10
      have H10 := hide ((unhide H9).right y10 k10)
      have R9b := hide (k10.row (unhide R9).1 (unhide R9).2)
      have R5 := hide r5
      have HLR : Hid ((F1 ++ F2).length ≤ 1024) := hide (by
        have h1 := ran_len 0 L (A + D)
        rw [hR] at h1
        simp only at h1
        omega)
      generalize F1 ++ F2 = R at *
      clear r5 y10 k10 o10 H9 R9
      obtain ⟨pa, capa, hfa, hca⟩ := (unhide R9b).form
      obtain ⟨pb, capb, hfb, hcb⟩ := (unhide R5).form
      subst hfa
      subst hfb
      have HCA := hide hca
      have HCB := hide hcb
      have DX := hide (wlen (unhide H10).x)
      have DY := hide (wlen (unhide H10).y)
      obtain ⟨N, hN⟩ : ∃ N, R.length = N := ⟨_, rfl⟩
      have hN2 : N ≤ 1024 := by have := unhide HLR; omega
      rw [hN]
      have HN := hide hN
      clear hca hcb hN hR
      go_wp2_with (first
        | (go_at_call 19; with_reducible refine (unhide DX).mono ?_; rintro e w11 ⟨rfl, rfl⟩)
        | (go_at_call 19; with_reducible refine (unhide DY).mono ?_; rintro e w12 ⟨rfl, rfl⟩))
      go_loopw [74] (fun d w' => ∃ j m : Nat, d = .int .i64 (j : Int) ∧ j ≤ N ∧ w' = w12.drewN m) (fun d _ => N - (intOf d).toNat)
      case atStart => exact ⟨0, 0, rfl, by omega, rfl⟩
      case round =>
        obtain ⟨j, m, rfl, hj, rfl⟩ := hrel
        by_cases hl : j < N
        · obtain ⟨x, hx⟩ : ∃ x, R[j]? = some x := ⟨R[j]'(by rw [unhide HN]; exact hl), List.getElem?_eq_getElem _⟩
          obtain ⟨ga, rfl, ca⟩ := (unhide HCA) j x hx
          obtain ⟨gb, rfl, cb⟩ := (unhide HCB) j x hx
          clear hx
          go_wp2
          go_quiet (fail)
          go_wp2
          go_roundw
          case rel => exact ⟨j + 1, m + nq, by first | rfl | go_num, by omega, by first | rfl | rw [World.drewN_drewN]⟩
          case measure => simp [intOf]; omega
        · have hjl : j = N := by omega
          subst hjl
          have HF := hide (((unhide H10).below (below_drewN _ m)).x.low)
          clear hl hj
          go_wp2
          go_ret
          exact ⟨rfl, by rw [hC]; exact unhide HF⟩
theorem lparts_row (p : Option Addr) (len cap : Nat) (V : Nat → Nat → Value) (a b : Int) (w : World) (h : SRow 3 w p len cap V)
    (hl : ∀ i, i < cap → ∀ j l, j < 3 → leafAt Try.prog 8 28 j = some l → l.is (V i j)) (ha : Lit.wf (.int .u16 a) = true) (hb : Lit.wf (.int .u16 b) = true) :
    Calls Try.prog 4 #[.slice p len cap, .int .u16 a, .int .u16 b] w fun e w' => e = .returned (.bool true) ∧ Below w.heap.size w w' := by
  by_cases hlen : len ≤ 60
  · simp [Lit.wf, IntKind.min, IntKind.max, IntKind.signed, IntKind.bits] at ha hb
    obtain ⟨x, rfl⟩ := Int.eq_ofNat_of_zero_le (show 0 ≤ a by omega)
    obtain ⟨y, rfl⟩ := Int.eq_ofNat_of_zero_le (show 0 ≤ b by omega)
    obtain ⟨kd, hkd⟩ := rows_int (j := 0) (k := .u8) hl (by omega) (by kernel_rfl)
    obtain ⟨ka, hka⟩ := rows_int (j := 1) (k := .i64) hl (by omega) (by kernel_rfl)
    obtain ⟨kb, hkb⟩ := rows_int (j := 2) (k := .i64) hl (by omega) (by kernel_rfl)
    rcases h with ⟨_, q1, q2⟩ | ⟨x0, e, q1, _, hcell⟩
    · exact lparts_short p len cap x y kd ka kb w hlen (by omega) (by omega) (fun i hi => by omega) (fun i hi => by omega)
    · refine lparts_short p len cap x y kd ka kb w hlen (by omega) (by omega) (fun i hi => (hka i (by omega)).2) (fun i hi => ?_)
      have c0 := hcell i (by omega) 0 (by omega)
      have c1 := hcell i (by omega) 1 (by omega)
      have c2 := hcell i (by omega) 2 (by omega)
      rw [(hkd i (by omega)).1] at c0
      rw [(hka i (by omega)).1] at c1
      rw [(hkb i (by omega)).1] at c2
      refine ⟨x0, e, ?_, c0, c1, c2⟩
      have := World.block_lt_of_cell? w _ c1
      unfold Addr.add at this
      split at this <;> exact this
  · exact lparts_long p len cap a b w (by omega)
end Go.Proofs.Ytkglaklkbodjkaa
