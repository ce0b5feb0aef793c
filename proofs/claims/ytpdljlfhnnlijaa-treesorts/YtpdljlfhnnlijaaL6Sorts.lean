import Derived.Test.YtpdljlfhnnlijaaTc
import Derived.Test.YtpdljlfhnnlijaaFlt
namespace Go.Proofs.Ytpdljlfhnnlijaa
open Go.RowKit

theorem lahead_any (a b c d : Int) (w : World) :
    Calls Try.prog 18 #[.agg #[.int .i64 a, .int .i64 b], .agg #[.int .i64 c, .int .i64 d]] w fun e w' => e = .returned (.bool (klt a b c d)) ∧ Below w.heap.size w w' := by
  have hb : Below w.heap.size w ((w.alloc (.cells #[.int .i64 a, .int .i64 b] 38)).alloc (.cells #[.int .i64 c, .int .i64 d] 38)) := (one_below w _).trans ((one_below _ _).mono (one_below w _).size)
  rcases (show a < c ∨ (¬ a < c ∧ a = c) ∨ (¬ a < c ∧ ¬ a = c) by omega) with h | ⟨h, rfl⟩ | ⟨h, h'⟩
  · have HK := hide (show klt a b c d = true from klt_iff.2 (.inl h))
    generalize klt a b c d = K at *
    go_enter Try.func18, Try.ntmps18
    go_wp2_with fail
    go_ret
    exact ⟨by rw [unhide HK]; rfl, hb⟩
  · have HK := hide (show klt a b a d = decide (b < d) by unfold klt; rw [if_pos rfl])
    generalize klt a b a d = K at *
    go_enter Try.func18, Try.ntmps18
    go_wp2_with fail
    go_ret
    exact ⟨by rw [unhide HK]; rfl, hb⟩
  · have HK := hide (show klt a b c d = false from klt_not.2 (.inl (by omega)))
    have he : (a == c) = false := by rw [beq_eq_false_iff_ne]; exact h'
    generalize klt a b c d = K at *
    go_enter Try.func18, Try.ntmps18
    go_wp2_with fail
    go_ret
    exact ⟨by rw [unhide HK]; rfl, hb⟩
set_option maxRecDepth 100000 in
set_option maxHeartbeats 4000000 in
theorem lsorts_short (p : Option Addr) (len cap : Nat) (a b : Nat → Int) (w : World) (hlen : len ≤ 300)
    (hc : ∀ i, i < len → ∃ x, p = some x ∧ w.cell? (x.add (i * 2)) = some (.int .i64 (a i)) ∧ w.cell? (x.add (i * 2 + 1)) = some (.int .i64 (b i)) ∧ x.block < w.heap.size) :
    Calls Try.prog 4 #[.slice p len cap] w fun e w' => e = .returned (.bool true) ∧ Below w.heap.size w w' := by
  have CF := hide (fixed6 w)
  have CN := fun w' => hide (tnew 300 (by omega) (by omega) w')
  rw [show ((300 : Nat) : Int) = 300 from rfl] at CN
  obtain ⟨B, hB⟩ : ∃ B, w.heap.size = B := ⟨_, rfl⟩
  rw [hB] at hc
  have hc := hide hc
  have hl2 : ((len : Nat) : Int) ≤ 300 := by omega
  go_enter Try.func4, Try.ntmps4
  go_wp2_with (first | (go_at_call 7; refine (unhide CF).mono ?_; rintro e w1 ⟨rfl, hb1⟩) | (go_at_call 8; refine Hid.out ?_))
  refine hide ?_
  refine (unhide (CN _)).mono ?_
  rintro e w2 ⟨T, G, rfl, tr2, hb2, hT, hG⟩
  rw [hB] at hb1
  have S2 : Below B w w2 := hb1.trans (hb2.mono (by have := hb1.size; omega))
  have hT1 : B ≤ T := by have := hb1.size; omega
  have hG1 : B ≤ G := by have := hb1.size; omega
  have HT2 := hide tr2
  clear tr2 hb1 hb2 hT hG
  go_wp2_with fail
  go_loopw [24] (fun d w' => ∃ (i : Nat) (tf : Nat → Int) (L : List It), d = .int .i64 (i : Int) ∧ i ≤ len ∧ Hid (Tre w' T G 300 tf L ∧ L.length = i ∧ ∀ x, 0 ≤ tf x ∧ tf x ≤ i) ∧ Below B w w') (fun d _ => len - (intOf d).toNat)
  case atStart => exact ⟨0, fun _ => 0, [], rfl, by omega, hide ⟨unhide HT2, rfl, fun _ => ⟨by show (0 : Int) ≤ 0; omega, by show (0 : Int) ≤ ((0 : Nat) : Int); omega⟩⟩, S2⟩
  case round =>
    obtain ⟨i, tf, L, rfl, hi, HI, hbel⟩ := hrel
    by_cases hlt : i < len
    · obtain ⟨x, rfl, hc1, hc2, hx⟩ := (unhide hc) i hlt
      have e1 : wr.cell? (x.add (i * 2)) = some (.int .i64 (a i)) := by
        rw [hbel.cell (p := x.add (i * 2)) (by unfold Addr.add; split <;> exact hx)]; exact hc1
      have e2 : wr.cell? (x.add (i * 2 + 1)) = some (.int .i64 (b i)) := by
        rw [hbel.cell (p := x.add (i * 2 + 1)) (by unfold Addr.add; split <;> exact hx)]; exact hc2
      rw [← Go.Deep.add_add] at e2
      have e3 : wr.cell? ⟨(x.add (i * 2)).block, (x.add (i * 2)).off + 1, none⟩ = some (.int .i64 (b i)) := e2
      clear hc1 hc2 e2
      generalize a i = ka at *
      generalize b i = kb at *
      go_wp2_with (go_at_call 13; refine Hid.out ?_)
      refine hide ?_
      obtain ⟨tr, ll, tb⟩ := unhide HI
      have C1 := tput T G 300 tf L _ (tr.below (one_below wr (.cells #[.int .i64 ka, .int .i64 kb] 38))) (by omega) (fun x => ⟨(tb x).1, by have := (tb x).2; omega⟩) ka kb
      refine C1.mono ?_
      rintro e w3 ⟨n, pre, post, rfl, n1, n2, n3, l3, q1, q2, tr3, tt3⟩
      have S3 : Below B w w3 := Touch.low (hbel.trans ((one_below wr (.cells #[.int .i64 ka, .int .i64 kb] 38)).mono (by have := hbel.size; omega))) tt3 hT1 hG1 (by have := hbel.size; have := (one_below wr (.cells #[.int .i64 ka, .int .i64 kb] 38)).size; omega)
      have HI3 : Hid (Tre w3 T G 300 (fun x => if x = n then tf n + 1 else tf x) (pre ++ ⟨n, tf n + 1, ka, kb⟩ :: post) ∧ (pre ++ ⟨n, tf n + 1, ka, kb⟩ :: post : List It).length = i + 1 ∧ ∀ x, 0 ≤ (fun x => if x = n then tf n + 1 else tf x) x ∧ (fun x => if x = n then tf n + 1 else tf x) x ≤ ((i + 1 : Nat) : Int)) := hide ⟨tr3, by rw [l3] at ll; simp only [List.length_append, List.length_cons] at ll ⊢; omega, fun x => by
        have h1 := tb x
        have h2 := tb n
        simp only
        split <;> omega⟩
      clear C1 tr ll tb l3 q1 q2 tr3 tt3 n3 HI
      go_wp2_with fail
      go_roundw
      case rel => exact ⟨i + 1, _, _, by go_num, by omega, hide ⟨(unhide HI3).1.below (one_below _ _), (unhide HI3).2⟩, S3.trans ((one_below w3 _).mono (by have := S3.size; omega))⟩
      case measure => simp [intOf]; omega
    · obtain rfl : i = len := by omega
      obtain ⟨tr, ll, tb⟩ := unhide HI
      obtain ⟨Q, hQ⟩ : ∃ Q, wr.heap.size = Q := ⟨_, rfl⟩
      have lts := tr.lts
      rw [hQ] at lts
      have hBQ : B ≤ Q := by have := hbel.size; omega
      have HJ : Hid (Tre (wr.alloc (.cells #[.int .i64 0, .int .i64 0] 38)) T G 300 tf L ∧ L.length = i - 0 ∧ Blk (wr.alloc (.cells #[.int .i64 0, .int .i64 0] 38)) Q 38 #[.int .i64 0, .int .i64 0] ∧ (0 < 0 → ∀ y ∈ L, klt y.a y.b 0 0 = false)) := hide ⟨tr.below (one_below _ _), ll, Blk.new_at _ _ _ hQ.symm, fun h => absurd h (by omega)⟩
      have S0 : Below B w (wr.alloc (.cells #[.int .i64 0, .int .i64 0] 38)) := hbel.trans ((one_below _ _).mono (by omega))
      clear tr ll tb HI
      go_wp2_with fail
      go_loopw [40] (fun d w' => ∃ (j : Nat) (tf : Nat → Int) (L : List It) (la lb : Int), d = .int .i64 (j : Int) ∧ j ≤ i ∧ Hid (Tre w' T G 300 tf L ∧ L.length = i - j ∧ Blk w' Q 38 #[.int .i64 la, .int .i64 lb] ∧ (0 < j → ∀ y ∈ L, klt y.a y.b la lb = false)) ∧ Below B w w') (fun d _ => i - (intOf d).toNat)
      case atStart => exact ⟨0, tf, L, 0, 0, rfl, by omega, HJ, S0⟩
      case round =>
        obtain ⟨j, tf, L, la, lb, rfl, hj, HI, hbel⟩ := hrel
        by_cases hlt : j < i
        · obtain ⟨tr, ll, kq, sr⟩ := unhide HI
          cases L with
          | nil => simp at ll; omega
          | cons y L =>
            have srt := List.pairwise_cons.1 tr.srt
            have HF := hide (tfirst T G 300 tf (y :: L) wr tr)
            rw [show hdV (y :: L) = .tuple #[.agg #[.int .i64 y.n, .int .i64 y.tu], .bool true] from rfl] at HF
            have HH := hide (And.intro tr (And.intro ll (And.intro kq (And.intro sr srt.1))))
            clear tr ll kq sr srt HI HJ
            go_wp2_with (go_at_call 9; refine Hid.out ?_)
            refine hide ?_
            refine (unhide HF).mono ?_
            rintro e w5 ⟨rfl, hb5⟩
            obtain ⟨tr, ll, kq, sr, sr2⟩ := unhide HH
            obtain ⟨hh, hhh⟩ : ∃ x, w5.heap.size = x := ⟨_, rfl⟩
            have tr5 := (tr.below hb5).below (one_below w5 (.cells #[.int .i64 y.n, .int .i64 y.tu] 27))
            have kq5 := (kq.below hb5 kq.lt).alloc (.cells #[.int .i64 y.n, .int .i64 y.tu] 27)
            have kh5 := Blk.new_at w5 27 #[.int .i64 y.n, .int .i64 y.tu] hhh.symm
            have S5 : Below B w (w5.alloc (.cells #[.int .i64 y.n, .int .i64 y.tu] 27)) := (hbel.trans (hb5.mono (by have := hbel.size; omega))).trans ((one_below _ _).mono (by have := hbel.size; have := hb5.size; omega))
            have hQh : Q < hh := by have := (kq.below hb5 kq.lt).lt; omega
            have HK := hide (tkey_in T G 300 tf (y :: L) _ tr5 y (by simp))
            have HH5 := hide (And.intro tr5 (And.intro kq5 (And.intro kh5 S5)))
            have HS := hide (And.intro ll (And.intro sr sr2))
            clear tr ll kq sr sr2 tr5 kq5 kh5 S5 HH HF hb5
            go_wp2_with (go_at_call 17; refine Hid.out ?_)
            refine hide ?_
            refine (unhide HK).mono ?_
            rintro e w6 ⟨rfl, hb6⟩
            obtain ⟨tr5, kq5, kh5, S5⟩ := unhide HH5
            obtain ⟨kk, hkk⟩ : ∃ x, w6.heap.size = x := ⟨_, rfl⟩
            obtain ⟨W7, hW7⟩ : ∃ W7, W7 = w6.alloc (.cells #[.int .i64 y.a, .int .i64 y.b] 38) := ⟨_, rfl⟩
            have b7 : Below w6.heap.size w6 W7 := by rw [hW7]; exact one_below _ _
            have tr7 := (tr5.below hb6).below b7
            have kq6 := kq5.below hb6 kq5.lt
            have kq7 := kq6.below b7 kq6.lt
            have kh6 := kh5.below hb6 kh5.lt
            have kh7 := kh6.below b7 kh6.lt
            have kk7 : Blk W7 kk 38 #[.int .i64 y.a, .int .i64 y.b] := by rw [hW7]; exact Blk.new_at _ _ _ hkk.symm
            have S7 : Below B w W7 := (S5.trans (hb6.mono (by have := S5.size; omega))).trans (b7.mono (by have := S5.size; have := hb6.size; omega))
            have hhk : hh < kk := by have := kh6.lt; omega
            have HC7 := hide (And.intro tr7 (And.intro kq7 (And.intro kh7 (And.intro kk7 S7))))
            have c0 := kq7.cell 0
            have c1 := kq7.cell 1
            have c2 := kh7.cell 0
            have c3 := kh7.cell 1
            have c4 := kk7.cell 0
            have c5 := kk7.cell 1
            rw [hW7] at c0 c1 c2 c3 c4 c5
            clear tr5 kq5 kh5 S5 b7 tr7 kq6 kq7 kh6 kh7 kk7 S7 HH5 HK hb6
            obtain ⟨ll, sr, sr2⟩ := unhide HS
            clear HS
            rcases Nat.eq_zero_or_pos j with h0 | h0
            · subst h0
              go_wp2_with (go_at_call 11; refine Hid.out ?_)
              refine hide ?_
              rw [← hW7]
              obtain ⟨tr8, kq8, kh8, kk8, S8⟩ := unhide HC7
              clear c0 c1 c2 c3 c4 c5
              refine (tdrop_in T G 300 tf [] L y W7 tr8).mono ?_
              rintro e w9 ⟨rfl, tr9, tt9⟩
              have kq9 := kq8.touch tt9 (by omega) (by omega)
              have kk9 := kk8.touch tt9 (by omega) (by omega)
              have S9 : Below B w w9 := Touch.low S8 tt9 hT1 hG1 (by have := S8.size; omega)
              have d0 := kq9.cell 0
              have d1 := kq9.cell 1
              have d2 := kk9.cell 0
              have d3 := kk9.cell 1
              have d4 := kq9.free
              have HN := hide (And.intro tr9 (And.intro kq9 (And.intro S9 (And.intro ll sr2))))
              clear tr8 kq8 kh8 kk8 S8 tr9 kq9 kk9 S9 ll sr sr2 tt9 HC7
              go_wp2_with fail
              go_roundw
              case rel =>
                obtain ⟨tr9, kq9, S9, ll, sr2⟩ := unhide HN
                exact ⟨0 + 1, tf, L, y.a, y.b, by go_num, by omega, hide ⟨(tr9.set (by omega) (by omega) _ _).set (by omega) (by omega) _ _, by simp only [List.length_cons] at ll; omega, (kq9.put _ _).put _ _, fun _ => sr2⟩, (S9.setCell (by simp; omega) _).setCell (by simp; omega) _⟩
              case measure => simp [intOf]; omega
            · have hk : klt y.a y.b la lb = false := sr h0 y (by simp)
              go_wp2_with (go_at_call 18; refine Hid.out ?_)
              refine hide ?_
              rw [← hW7]
              refine (lahead_any y.a y.b la lb W7).mono ?_
              rintro e w8 ⟨rfl, hb8⟩
              rw [hk]
              obtain ⟨tr7, kq7, kh7, kk7, S7⟩ := unhide HC7
              have tr8 := tr7.below hb8
              have kq8 := kq7.below hb8 kq7.lt
              have kh8 := kh7.below hb8 kh7.lt
              have kk8 := kk7.below hb8 kk7.lt
              have S8 : Below B w w8 := S7.trans (hb8.mono (by have := S7.size; omega))
              have g0 := kh8.cell 0
              have g1 := kh8.cell 1
              have HC8 := hide (And.intro tr8 (And.intro kq8 (And.intro kh8 (And.intro kk8 S8))))
              clear c0 c1 c2 c3 c4 c5 tr7 kq7 kh7 kk7 S7 hb8 tr8 kq8 kh8 kk8 S8 hk
              go_wp2_with (go_at_call 11; refine Hid.out ?_)
              refine hide ?_
              obtain ⟨tr8, kq8, kh8, kk8, S8⟩ := unhide HC8
              clear HC8 g0 g1
              refine (tdrop_in T G 300 tf [] L y w8 tr8).mono ?_
              rintro e w9 ⟨rfl, tr9, tt9⟩
              have kq9 := kq8.touch tt9 (by omega) (by omega)
              have kk9 := kk8.touch tt9 (by omega) (by omega)
              have S9 : Below B w w9 := Touch.low S8 tt9 hT1 hG1 (by have := S8.size; omega)
              have d0 := kq9.cell 0
              have d1 := kq9.cell 1
              have d2 := kk9.cell 0
              have d3 := kk9.cell 1
              have d4 := kq9.free
              have HN := hide (And.intro tr9 (And.intro kq9 (And.intro S9 (And.intro ll sr2))))
              clear tr8 kq8 kh8 kk8 S8 tr9 kq9 kk9 S9 ll sr sr2 tt9 HC7
              go_wp2_with fail
              go_roundw
              case rel =>
                obtain ⟨tr9, kq9, S9, ll, sr2⟩ := unhide HN
                exact ⟨j + 1, tf, L, y.a, y.b, by go_num, by omega, hide ⟨(tr9.set (by omega) (by omega) _ _).set (by omega) (by omega) _ _, by simp only [List.length_cons] at ll; omega, (kq9.put _ _).put _ _, fun _ => sr2⟩, (S9.setCell (by simp; omega) _).setCell (by simp; omega) _⟩
              case measure => simp [intOf]; omega
        · obtain ⟨tr, ll, kq, sr⟩ := unhide HI
          obtain rfl : L = [] := by
            cases L with
            | nil => rfl
            | cons y L => simp only [List.length_cons] at ll; omega
          have HF := hide (tfirst T G 300 tf [] wr tr)
          rw [show hdV [] = .tuple #[.agg #[.int .i64 0, .int .i64 0], .bool false] from rfl] at HF
          have HH := hide tr
          clear tr ll kq sr HI HJ
          go_wp2_with (go_at_call 9; refine Hid.out ?_)
          refine hide ?_
          refine (unhide HF).mono ?_
          rintro e w5 ⟨rfl, hb5⟩
          have tr5 := (unhide HH).below hb5
          have HL := hide (tlen T G 300 tf [] w5 tr5)
          have HL2 := fun o => hide (tlen T G 300 tf [] (w5.alloc o) (tr5.below (one_below w5 o)))
          have S5 : Below B w w5 := hbel.trans (hb5.mono (by have := hbel.size; omega))
          clear tr5 HH HF hb5
          go_wp2_with (first | (go_at_call 19; refine (unhide HL).mono ?_; rintro e w' ⟨rfl, rfl⟩) | (go_at_call 19; refine (unhide (HL2 _)).mono ?_; rintro e w' ⟨rfl, hw6⟩; subst hw6))
          go_ret
          exact ⟨rfl, by rw [hB]; first | exact S5 | exact S5.trans ((one_below _ _).mono (by have := S5.size; omega))⟩
set_option maxHeartbeats 1000000 in
theorem lsorts_long (p : Option Addr) (len cap : Nat) (w : World) (hlen : 300 < len) :
    Calls Try.prog 4 #[.slice p len cap] w fun e w' => e = .returned (.bool true) ∧ Below w.heap.size w w' := by
  have CF := hide (fixed6 w)
  have hl2 : (300 : Int) < ((len : Nat) : Int) := by omega
  go_enter Try.func4, Try.ntmps4
  go_wp2_with (go_at_call 7; refine (unhide CF).mono ?_; rintro e w1 ⟨rfl, hb1⟩)
  go_ret
  exact ⟨rfl, hb1⟩
theorem lsorts_row (p : Option Addr) (len cap : Nat) (V : Nat → Nat → Value) (w : World) (h : SRow 2 w p len cap V)
    (hl : ∀ i, i < cap → ∀ j l, j < 2 → leafAt Try.prog 8 38 j = some l → l.is (V i j)) :
    Calls Try.prog 4 #[.slice p len cap] w fun e w' => e = .returned (.bool true) ∧ Below w.heap.size w w' := by
  obtain ⟨a, ha⟩ := rows_int (j := 0) (k := .i64) hl (by omega) (by kernel_rfl)
  obtain ⟨b, hb⟩ := rows_int (j := 1) (k := .i64) hl (by omega) (by kernel_rfl)
  by_cases hlen : len ≤ 300
  · refine lsorts_short p len cap a b w hlen fun i hi => ?_
    rcases h with ⟨_, h1, _⟩ | ⟨x, e, h1, _, hcell⟩
    · omega
    · have c0 := hcell i (by omega) 0 (by omega)
      have c1 := hcell i (by omega) 1 (by omega)
      rw [(ha i (by omega)).1] at c0
      rw [(hb i (by omega)).1] at c1
      refine ⟨x, e, c0, c1, ?_⟩
      have := World.block_lt_of_cell? w _ c1
      unfold Addr.add at this
      split at this <;> exact this
  · exact lsorts_long p len cap w (by omega)
end Go.Proofs.Ytpdljlfhnnlijaa
